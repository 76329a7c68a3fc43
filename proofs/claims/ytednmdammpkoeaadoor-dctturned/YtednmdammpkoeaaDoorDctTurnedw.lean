/- DctTurned: the walk. -/
import Derived.Test.YtednmdammpkoeaaDoorDctFlatw
namespace Go.Proofs.YtednmdammpkoeaaDoor
open Go.RowKit
set_option linter.unusedVariables false

/-- The first j places as f says, the others as g. -/
def mixF (n : Nat) (f g : Nat → Int) (j : Nat) : List Int := mkL n fun i => if i < j then f i else g i
theorem mixF_len (n : Nat) (f g : Nat → Int) (j : Nat) : (mixF n f g j).length = n := mkL_len _ _
theorem mixF_zero (n : Nat) (f g : Nat → Int) : mixF n f g 0 = mkL n g := mkL_congr _ _ _ fun i hi => by rw [if_neg (by omega)]
theorem mixF_all (n : Nat) (f g : Nat → Int) : mixF n f g n = mkL n f := mkL_congr _ _ _ fun i hi => by rw [if_pos hi]
theorem mixF_at (n : Nat) (f g : Nat → Int) (j : Nat) (h : j < n) : (mixF n f g j).getD j 0 = g j := by
  unfold mixF; rw [mkL_at _ _ _ h, if_neg (by omega)]
theorem mixF_set (n : Nat) (f g : Nat → Int) (j : Nat) (z : Int) (h : j < n) (hz : f j = z) : (mixF n f g j).set j z = mixF n f g (j + 1) := by
  symm
  refine mkL_eq _ _ _ (by rw [List.length_set, mixF_len]) fun i hi => ?_
  rw [getD_set, mixF_len]
  by_cases e : i = j
  · subst e; rw [if_pos (Nat.lt_succ_self i), if_pos ⟨rfl, h⟩, hz]
  · rw [if_neg (fun c : j = i ∧ _ => e c.1.symm), mixF, mkL_at _ _ _ hi]
    by_cases c : i < j
    · rw [if_pos c, if_pos (by omega)]
    · rw [if_neg c, if_neg (by omega)]

theorem cells_other {w : World} {g c i : Nat} {l : List Value} {x : Value} (h : Cells w g l) (hg : g ≠ c) : Cells (w.setCell ⟨c, i, none⟩ x) g l := by
  obtain ⟨t, h⟩ := h
  exact ⟨t, by rw [Below.heap_setCell _ _ _ _ hg]; exact h⟩
/-- Six rows of numbers in blocks of their own. -/
structure Six (w : World) (gv gw g1 g2 g3 g4 : Nat) (V W B O T P : List Int) : Prop where
  v : Cells w gv (ints V)
  u : Cells w gw (ints W)
  b : Cells w g1 (ints B)
  o : Cells w g2 (ints O)
  t : Cells w g3 (ints T)
  p : Cells w g4 (ints P)

theorem told_at {w : World} {r n k : Nat} {xs : List Int} {d : Nat} (h : Lies w (some ⟨r, 0, none⟩) (dctL n xs)) (hk : k < n) : (w.drewN d).cell? ⟨r, k, none⟩ = some (.int .i64 (coefI k xs)) := by
  obtain ⟨b, o, hbo, hlt, hc⟩ := h.some (by intro h; have := dct_len n xs; rw [h] at this; simp at this; omega)
  cases hbo
  show w.cell? ⟨r, k, none⟩ = _
  have := hc k (by rw [dct_len]; exact hk)
  rw [dct_at _ _ _ hk, Nat.zero_add] at this
  exact this
theorem coefI_bd (k : Nat) (xs : List Int) (n : Nat) (hn : xs.length = n) (h16 : n ≤ 16) (hx : ∀ m, m < n → -1099511627776 ≤ xs.getD m 0 ∧ xs.getD m 0 ≤ 1099511627776) : -35184372088832 ≤ coefI k xs ∧ coefI k xs ≤ 35184372088832 := by
  have hb := coefS_bd k xs n hn h16 hx
  unfold coefI
  rw [w64_in ⟨by omega, by omega⟩, half14, divI_eq _ _ (by decide)]
  omega
/-- What of the five rows' coefficients is so. -/
theorem coefs_told (n : Nat) (F G : Nat → Int) (hm : mayD n) (hF : ∀ i, -549755813888 ≤ F i ∧ F i ≤ 549755813888) (hG : ∀ i, In64 (G i)) (k : Nat) (hk : k < n) :
    (if k % 2 = 1 then coefI k (mkL n F) + coefI k (mkL n fun i => F (n - 1 - i)) = 0 ∨ coefI k (mkL n F) + coefI k (mkL n fun i => F (n - 1 - i)) = 1 else coefI k (mkL n F) = coefI k (mkL n fun i => F (n - 1 - i))) ∧
    (-35184372088832 ≤ coefI k (mkL n F) ∧ coefI k (mkL n F) ≤ 35184372088832 ∧ -35184372088832 ≤ coefI k (mkL n fun i => F (n - 1 - i)) ∧ coefI k (mkL n fun i => F (n - 1 - i)) ≤ 35184372088832) ∧
    coefI k (mkL n fun i => F i / 16384 * 16384) + coefI k (mkL n fun i => G i / 274877906944 * 16384) = coefI k (mkL n fun i => F i / 16384 * 16384 + G i / 274877906944 * 16384) ∧
    -35184372088832 ≤ coefI k (mkL n fun i => F i / 16384 * 16384 + G i / 274877906944 * 16384) ∧ coefI k (mkL n fun i => F i / 16384 * 16384 + G i / 274877906944 * 16384) ≤ 35184372088832 := by
  have h16 := (mayD_le hm).2
  have aF : ∀ m, m < n → (mkL n F).getD m 0 = F m := fun m h => mkL_at _ _ _ h
  have aB : ∀ m, m < n → (mkL n fun i => F (n - 1 - i)).getD m 0 = F (n - 1 - m) := fun m h => mkL_at _ _ _ h
  have aO : ∀ m, m < n → (mkL n fun i => F i / 16384 * 16384).getD m 0 = F m / 16384 * 16384 := fun m h => mkL_at _ _ _ h
  have aT : ∀ m, m < n → (mkL n fun i => G i / 274877906944 * 16384).getD m 0 = G m / 274877906944 * 16384 := fun m h => mkL_at _ _ _ h
  have aP : ∀ m, m < n → (mkL n fun i => F i / 16384 * 16384 + G i / 274877906944 * 16384).getD m 0 = F m / 16384 * 16384 + G m / 274877906944 * 16384 := fun m h => mkL_at _ _ _ h
  have bF := coefI_bd k (mkL n F) n (mkL_len _ _) h16 fun m h => by rw [aF m h]; have := hF m; omega
  have bB := coefI_bd k (mkL n fun i => F (n - 1 - i)) n (mkL_len _ _) h16 fun m h => by rw [aB m h]; have := hF (n - 1 - m); omega
  have bP := coefI_bd k (mkL n fun i => F i / 16384 * 16384 + G i / 274877906944 * 16384) n (mkL_len _ _) h16 fun m h => by rw [aP m h]; have := hF m; have := hG m; unfold In64 at this; omega
  refine ⟨coef_back k _ _ n (mkL_len _ _) (mkL_len _ _) hm hk (fun m h => by rw [aB m h, aF _ (by omega)]) (fun m h => by rw [aF m h]; have := hF m; omega), ⟨bF.1, bF.2, bB.1, bB.2⟩, ?_, bP.1, bP.2⟩
  have e1 := coef_whole k (mkL n fun i => F i / 16384 * 16384) (mkL n fun i => F i / 16384) n (mkL_len _ _) h16 fun m h => by
    rw [aO m h, mkL_at _ _ _ h]; have := hF m; omega
  have e2 := coef_whole k (mkL n fun i => G i / 274877906944 * 16384) (mkL n fun i => G i / 274877906944) n (mkL_len _ _) h16 fun m h => by
    rw [aT m h, mkL_at _ _ _ h]; have := hG m; unfold In64 at this; omega
  have e3 := coef_whole k (mkL n fun i => F i / 16384 * 16384 + G i / 274877906944 * 16384) (mkL n fun i => F i / 16384 + G i / 274877906944) n (mkL_len _ _) h16 fun m h => by
    rw [aP m h, mkL_at _ _ _ h]; have := hF m; have := hG m; unfold In64 at this; omega
  rw [e1, e2, e3, ← coef_plus]
  exact sumF_congr _ _ _ fun m h => by rw [mkL_at _ _ _ h, mkL_at _ _ _ h, mkL_at _ _ _ h]

set_option maxRecDepth 100000 in
theorem dctturned_walk (a : Option Addr) (len cap : Nat) (zs : List Int) (a' : Option Addr) (len' cap' : Nat) (zs' : List Int) (x : Int) (w : World) (h1 : IsRow .i64 w a len cap zs) (h2 : IsRow .i64 w a' len' cap' zs') (hx : In64 x) (hq : Quar w) :
    Calls Tryd.prog 7 #[.slice a len cap, .slice a' len' cap', .int .i64 x] w fun e w' => e = .returned (.bool true) ∧ Below w.heap.size w w' := by
  obtain ⟨i0, hi, hz0, hz1, hz2⟩ := info_parts Tryd.info3
  have HI : Hid (Tryd.prog.info? 3 = some i0 ∧ i0.zero = some (.int .i64 0) ∧ i0.size = 1 ∧ i0.bytes = 8) := ⟨hi, hz0, hz1, hz2⟩
  obtain ⟨xs, hlen, hl63, hlx, hsx⟩ := dct_row_all a len cap zs w h1
  obtain ⟨ys, hlen', hl63', hlx', hsx'⟩ := dct_row_all a' len' cap' zs' w h2
  obtain ⟨N, hN, _, hsz⟩ := sized_all x hx
  have hN16 := (mayD_le hN).2
  have hN4 := (mayD_le hN).1
  have HNM := hide hN
  have HN := hide hlen
  have HL := hide hlx
  have HS := hide hsx
  have HN' := hide hlen'
  have HL' := hide hlx'
  have HS' := hide hsx'
  have HSZ := hide hsz
  have HQ := hide hq
  clear h1 hlen hlx hsx h2 hlen' hlx' hsx' hsz hq hN
  go_enter Tryd.func7, Tryd.ntmps7
  go_wp2_with fail
  refine (dct_awake w (unhide HQ)).mono ?_
  rintro e w1 ⟨rfl, hb⟩
  have HB1 := hide hb
  clear hb
  go_wp2_with fail
  refine (unhide HSZ _ _ _ xs _ ((unhide HL).below (unhide HB1)) (unhide HN)).mono ?_
  rintro e w2 ⟨gv, rfl, hgv, hcv, hb⟩
  have HB2 := hide (below_trans (unhide HB1) hb)
  have hgv2 := hcv.lt
  have HCV := hide hcv
  clear hcv hb
  go_wp2_with fail
  refine (unhide HSZ _ _ _ ys _ ((unhide HL').below (unhide HB2)) (unhide HN')).mono ?_
  rintro e w3 ⟨gw, rfl, hgw, hcw, hb⟩
  have HB3 := hide (below_trans (unhide HB2) hb)
  have HCV3 := hide ((unhide HCV).below hb)
  have hgw2 := hcw.lt
  have HCW := hide hcw
  clear hcw hb HCV
  go_wp2_with (at_make; refine wpList_make_full _ rfl _ _ 22 rfl w3.heap.size 3 i0 (.int .i64 0) 1 Tryd.underlying22 (unhide HI).1 (unhide HI).2.1 (unhide HI).2.2.1 _ _ _ _ N rfl rfl rfl rfl ?m1 ?m2 ?m3 ?_)
  case m1 => rw [(unhide HI).2.2.2]; omega
  case m2 => unfold maxLen; omega
  case m3 => exact Nat.le_refl _
  intro w4 hown hgr
  rw [ints_zero] at hown
  have hc4 := own_cells hown
  have hb := (Below.refl w3.heap.size w3).grown hgr (Nat.le_refl _) (fun _ h => by cases h)
  have HB4 := hide (below_trans (unhide HB3) hb)
  obtain ⟨g1, hg1⟩ : ∃ g1, w3.heap.size = g1 := ⟨_, rfl⟩
  rw [hg1] at hc4 hgw2 ⊢
  have HSX := hide ((And.intro ((unhide HCV3).below hb) (And.intro ((unhide HCW).below hb) hc4)))
  have hl4 := hc4.lt
  clear hown hgr hb hc4 hg1 HCV3 HCW
  go_wp2_with (at_make; refine wpList_make_full _ rfl _ _ 22 rfl w4.heap.size 3 i0 (.int .i64 0) 1 Tryd.underlying22 (unhide HI).1 (unhide HI).2.1 (unhide HI).2.2.1 _ _ _ _ N rfl rfl rfl rfl ?m1 ?m2 ?m3 ?_)
  case m1 => rw [(unhide HI).2.2.2]; omega
  case m2 => unfold maxLen; omega
  case m3 => exact Nat.le_refl _
  intro w5 hown hgr
  rw [ints_zero] at hown
  have hc5 := own_cells hown
  have hb := (Below.refl w4.heap.size w4).grown hgr (Nat.le_refl _) (fun _ h => by cases h)
  have HB5 := hide (below_trans (unhide HB4) hb)
  obtain ⟨g2, hg2⟩ : ∃ g2, w4.heap.size = g2 := ⟨_, rfl⟩
  rw [hg2] at hc5 hl4 ⊢
  have HSX5 := hide ((And.intro ((unhide HSX).1.below hb) (And.intro ((unhide HSX).2.1.below hb) (And.intro ((unhide HSX).2.2.below hb) hc5))))
  have hl5 := hc5.lt
  clear hown hgr hb hc5 hg2 HSX
  go_wp2_with (at_make; refine wpList_make_full _ rfl _ _ 22 rfl w5.heap.size 3 i0 (.int .i64 0) 1 Tryd.underlying22 (unhide HI).1 (unhide HI).2.1 (unhide HI).2.2.1 _ _ _ _ N rfl rfl rfl rfl ?m1 ?m2 ?m3 ?_)
  case m1 => rw [(unhide HI).2.2.2]; omega
  case m2 => unfold maxLen; omega
  case m3 => exact Nat.le_refl _
  intro w6 hown hgr
  rw [ints_zero] at hown
  have hc6 := own_cells hown
  have hb := (Below.refl w5.heap.size w5).grown hgr (Nat.le_refl _) (fun _ h => by cases h)
  have HB6 := hide (below_trans (unhide HB5) hb)
  obtain ⟨g3, hg3⟩ : ∃ g3, w5.heap.size = g3 := ⟨_, rfl⟩
  rw [hg3] at hc6 hl5 ⊢
  have HSX6 := hide ((And.intro ((unhide HSX5).1.below hb) (And.intro ((unhide HSX5).2.1.below hb) (And.intro ((unhide HSX5).2.2.1.below hb) (And.intro ((unhide HSX5).2.2.2.below hb) hc6)))))
  have hl6 := hc6.lt
  clear hown hgr hb hc6 hg3 HSX5
  go_wp2_with (at_make; refine wpList_make_full _ rfl _ _ 22 rfl w6.heap.size 3 i0 (.int .i64 0) 1 Tryd.underlying22 (unhide HI).1 (unhide HI).2.1 (unhide HI).2.2.1 _ _ _ _ N rfl rfl rfl rfl ?m1 ?m2 ?m3 ?_)
  case m1 => rw [(unhide HI).2.2.2]; omega
  case m2 => unfold maxLen; omega
  case m3 => exact Nat.le_refl _
  intro w7 hown hgr
  rw [ints_zero] at hown
  have hc7 := own_cells hown
  have hb := (Below.refl w6.heap.size w6).grown hgr (Nat.le_refl _) (fun _ h => by cases h)
  have HB7 := hide (below_trans (unhide HB6) hb)
  obtain ⟨g4, hg4⟩ : ∃ g4, w6.heap.size = g4 := ⟨_, rfl⟩
  rw [hg4] at hc7 hl6 ⊢
  have HSX7 := hide (show Six w7 gv gw g1 g2 g3 g4 (sizedL xs N) (sizedL ys N) (List.replicate N 0) (List.replicate N 0) (List.replicate N 0) (List.replicate N 0) from ⟨(unhide HSX6).1.below hb, (unhide HSX6).2.1.below hb, (unhide HSX6).2.2.1.below hb, (unhide HSX6).2.2.2.1.below hb, (unhide HSX6).2.2.2.2.below hb, hc7⟩)
  have HORD := hide (show w1.heap.size ≤ gv ∧ gv < gw ∧ gw < g1 ∧ g1 < g2 ∧ g2 < g3 ∧ g3 < g4 from ⟨hgv, by omega, by omega, by omega, by omega, by omega⟩)
  clear hown hgr hb hc7 hg4 HSX6
  have HSZ1 := hide (unhide HB1).size
  go_wp2
  go_loopw [15] (fun j wr => ∃ m : Nat, m ≤ N ∧ j = .int .i64 (m : Int) ∧ Hid (Six wr gv gw g1 g2 g3 g4 (mixF N (fun i => xs.getD i 0 / 16777216) (fun i => xs.getD i 0) m) (sizedL ys N) (List.replicate N 0) (List.replicate N 0) (List.replicate N 0) (List.replicate N 0)) ∧ Hid (Below w.heap.size w wr))
    (fun j _ => N - (intOf j).toNat)
  case atStart => exact ⟨0, by omega, rfl, by rw [mixF_zero]; exact unhide HSX7, HB7⟩
  case round =>
    obtain ⟨m, hm, rfl, HSX, HBr⟩ := hrel
    by_cases hlt : m < N
    · obtain ⟨y, hy⟩ : ∃ y, xs.getD m 0 = y := ⟨_, rfl⟩
      have hcell := (unhide HSX).v.cell m _ (ints_at _ m (by rw [mixF_len]; exact hlt))
      rw [mixF_at _ _ _ _ hlt, hy] at hcell
      have hfree := (unhide HSX).v.free m
      have HX := hide (mixF_set N (fun i => xs.getD i 0 / 16777216) (fun i => xs.getD i 0) m (y / 16777216) hlt (by rw [hy]))
      clear hy
      go_wp2
      go_roundw
      case rel =>
        refine ⟨m + 1, by omega, by simp, ?_, (unhide HBr).setCell (show w.heap.size ≤ gv by have := unhide HSZ1; have := (unhide HORD).1; omega) _⟩
        have o := unhide HORD
        have h := unhide HSX
        have e := h.v.set m (.int .i64 (y / 16777216))
        rw [ints_set, unhide HX] at e
        exact ⟨e, cells_other h.u (show gw ≠ gv by omega), cells_other h.b (show g1 ≠ gv by omega), cells_other h.o (show g2 ≠ gv by omega), cells_other h.t (show g3 ≠ gv by omega), cells_other h.p (show g4 ≠ gv by omega)⟩
      case measure => simp [intOf]; omega
    · obtain rfl : m = N := by omega
      rw [mixF_all] at HSX
      obtain ⟨w8, rfl⟩ : ∃ w8, w8 = wr := ⟨_, rfl⟩
      clear HSX7 HB7
      obtain ⟨F, hF⟩ : ∃ F : Nat → Int, (fun i => xs.getD i 0 / 16777216) = F := ⟨_, rfl⟩
      have HFB := hide (show ∀ i, -549755813888 ≤ F i ∧ F i ≤ 549755813888 from fun i => by
        have := (unhide HS).all i
        rw [← hF]; unfold In64 at this
        show _ ≤ xs.getD i 0 / 16777216 ∧ xs.getD i 0 / 16777216 ≤ _
        omega)
      obtain ⟨G, hG⟩ : ∃ G : Nat → Int, (fun i => ys.getD i 0) = G := ⟨_, rfl⟩
      have HGB := hide (show ∀ i, In64 (G i) from fun i => by have := (unhide HS').all i; rw [← hG]; exact this)
      rw [hF, show sizedL ys m = mkL m G by rw [← hG]; rfl] at HSX
      clear hF hG
      go_wp2
      go_loopw [16] (fun j wr => ∃ t : Nat, t ≤ m ∧ j = .int .i64 (t : Int) ∧ Hid (Six wr gv gw g1 g2 g3 g4 (mkL m F) (mkL m G) (fillL m (fun i => F (m - 1 - i)) t) (fillL m (fun i => F i / 16384 * 16384) t) (fillL m (fun i => G i / 274877906944 * 16384) t) (fillL m (fun i => F i / 16384 * 16384 + G i / 274877906944 * 16384) t)) ∧ Hid (Below w.heap.size w wr))
        (fun j _ => m - (intOf j).toNat)
      case atStart => exact ⟨0, by omega, rfl, by rw [← fill_zero, ← fill_zero, ← fill_zero, ← fill_zero]; exact unhide HSX, HBr⟩
      case round =>
        obtain ⟨t, ht, rfl, HSY, HBs⟩ := hrel
        obtain ⟨wr2, rfl⟩ : ∃ x, x = wr := ⟨_, rfl⟩
        have o := unhide HORD
        have h := unhide HSY
        by_cases hlt2 : t < m
        · obtain ⟨p, hp⟩ : ∃ p, p + t + 1 = m := ⟨m - 1 - t, by omega⟩
          have hpi : (m : Int) - 1 - (t : Int) = (p : Int) := by omega
          obtain ⟨y, hy⟩ : ∃ y, F t = y := ⟨_, rfl⟩
          obtain ⟨z, hz⟩ : ∃ z, F p = z := ⟨_, rfl⟩
          obtain ⟨u, hu⟩ : ∃ u, G t = u := ⟨_, rfl⟩
          have hyb := (unhide HFB) t
          rw [hy] at hyb
          have hub := (unhide HGB) t
          rw [hu] at hub
          have X1 := hide (fill_set m (fun i => F (m - 1 - i)) t z hlt2 (by rw [← hz]; congr 1; omega))
          have X2 := hide (fill_set m (fun i => F i / 16384 * 16384) t (y / 16384 * 16384) hlt2 (by rw [hy]))
          have X3 := hide (fill_set m (fun i => G i / 274877906944 * 16384) t (u / 274877906944 * 16384) hlt2 (by rw [hu]))
          have X4 := hide (fill_set m (fun i => F i / 16384 * 16384 + G i / 274877906944 * 16384) t (y / 16384 * 16384 + u / 274877906944 * 16384) hlt2 (by rw [hy, hu]))
          have c1 := h.v.cell t _ (ints_at _ t (by rw [mkL_len]; exact hlt2))
          rw [mkL_at _ _ _ hlt2, hy] at c1
          have c2 := h.v.cell p _ (ints_at _ p (by rw [mkL_len]; omega))
          rw [mkL_at _ _ _ (by omega), hz] at c2
          have c3 := h.u.cell t _ (ints_at _ t (by rw [mkL_len]; exact hlt2))
          rw [mkL_at _ _ _ hlt2, hu] at c3
          have d1 := h.b.cell t _ (ints_at _ t (by rw [fill_len]; exact hlt2))
          have d2 := h.o.cell t _ (ints_at _ t (by rw [fill_len]; exact hlt2))
          have d3 := h.t.cell t _ (ints_at _ t (by rw [fill_len]; exact hlt2))
          have d4 := h.p.cell t _ (ints_at _ t (by rw [fill_len]; exact hlt2))
          have e1 := h.b.free t
          have e2 := h.o.free t
          have e3 := h.t.free t
          have e4 := h.p.free t
          unfold In64 at hub
          clear hy hz hu h
          go_wp2_with fail
          obtain ⟨W1, hW1⟩ : ∃ W1, ((wr2.setCell ⟨g1, t, none⟩ (.int .i64 z)).setCell ⟨g2, t, none⟩ (.int .i64 (y / 16384 * 16384))).setCell ⟨g3, t, none⟩ (.int .i64 (u / 274877906944 * 16384)) = W1 := ⟨_, rfl⟩
          rw [hW1]
          have S1 : Hid (Six W1 gv gw g1 g2 g3 g4 (mkL m F) (mkL m G) (fillL m (fun i => F (m - 1 - i)) (t + 1)) (fillL m (fun i => F i / 16384 * 16384) (t + 1)) (fillL m (fun i => G i / 274877906944 * 16384) (t + 1)) (fillL m (fun i => F i / 16384 * 16384 + G i / 274877906944 * 16384) t)) := by
            have h := unhide HSY
            have s1 := h.b.set t (.int .i64 z)
            rw [ints_set, unhide X1] at s1
            have s2 := (cells_other (i := t) (x := .int .i64 z) h.o (show g2 ≠ g1 by omega)).set t (.int .i64 (y / 16384 * 16384))
            rw [ints_set, unhide X2] at s2
            have s3 := (cells_other (i := t) (x := .int .i64 (y / 16384 * 16384)) (cells_other (i := t) (x := .int .i64 z) h.t (show g3 ≠ g1 by omega)) (show g3 ≠ g2 by omega)).set t (.int .i64 (u / 274877906944 * 16384))
            rw [ints_set, unhide X3] at s3
            rw [← hW1]
            exact ⟨cells_other (cells_other (cells_other h.v (show gv ≠ g1 by omega)) (show gv ≠ g2 by omega)) (show gv ≠ g3 by omega), cells_other (cells_other (cells_other h.u (show gw ≠ g1 by omega)) (show gw ≠ g2 by omega)) (show gw ≠ g3 by omega), cells_other (cells_other s1 (show g1 ≠ g2 by omega)) (show g1 ≠ g3 by omega), cells_other s2 (show g2 ≠ g3 by omega), s3, cells_other (cells_other (cells_other h.p (show g4 ≠ g1 by omega)) (show g4 ≠ g2 by omega)) (show g4 ≠ g3 by omega)⟩
          have BW1 : Hid (Below w.heap.size w W1) := by
            rw [← hW1]
            have := unhide HSZ1
            exact ((unhide HBs).setCell (show w.heap.size ≤ g1 by omega) _ |>.setCell (show w.heap.size ≤ g2 by omega) _).setCell (show w.heap.size ≤ g3 by omega) _
          have k2 := (unhide S1).o.cell t (.int .i64 (y / 16384 * 16384)) (by rw [ints_at _ t (by rw [fill_len]; exact hlt2), ← unhide X2, getD_set, if_pos ⟨rfl, by rw [fill_len]; exact hlt2⟩])
          have k3 := (unhide S1).t.cell t (.int .i64 (u / 274877906944 * 16384)) (by rw [ints_at _ t (by rw [fill_len]; exact hlt2), ← unhide X3, getD_set, if_pos ⟨rfl, by rw [fill_len]; exact hlt2⟩])
          have k4 := (unhide S1).p.cell t _ (ints_at _ t (by rw [fill_len]; exact hlt2))
          have j4 := (unhide S1).p.free t
          clear hW1 d1 d2 d3 d4 e1 e2 e3 e4 c1 c2 c3 HSY HBs X1 X2 X3
          go_region
          go_wp2
          go_roundw
          case rel =>
            have h := unhide S1
            have s4 := h.p.set t (.int .i64 (y / 16384 * 16384 + u / 274877906944 * 16384))
            rw [ints_set, unhide X4] at s4
            refine ⟨t + 1, by omega, by simp, ?_, ((unhide BW1).setCell (show w.heap.size ≤ g4 by have := unhide HSZ1; omega) _).drew⟩
            exact ⟨(cells_other h.v (show gv ≠ g4 by omega)).drew, (cells_other h.u (show gw ≠ g4 by omega)).drew, (cells_other h.b (show g1 ≠ g4 by omega)).drew, (cells_other h.o (show g2 ≠ g4 by omega)).drew, (cells_other h.t (show g3 ≠ g4 by omega)).drew, s4.drew⟩
          case measure => simp [intOf]; omega
        · obtain rfl : t = m := by omega
          rw [fill_all, fill_all, fill_all, fill_all] at HSY
          have HYS := hide (show Lies wr2 (some ⟨gv, 0, none⟩) (mkL t F) ∧ Lies wr2 (some ⟨g1, 0, none⟩) (mkL t fun i => F (t - 1 - i)) ∧ Lies wr2 (some ⟨g2, 0, none⟩) (mkL t fun i => F i / 16384 * 16384) ∧ Lies wr2 (some ⟨g3, 0, none⟩) (mkL t fun i => G i / 274877906944 * 16384) ∧ Lies wr2 (some ⟨g4, 0, none⟩) (mkL t fun i => F i / 16384 * 16384 + G i / 274877906944 * 16384) from
            ⟨(unhide HSY).v.lies, (unhide HSY).b.lies, (unhide HSY).o.lies, (unhide HSY).t.lies, (unhide HSY).p.lies⟩)
          clear HSY HSX HBr o h
          go_wp2_with fail
          refine (dct_yes _ _ t t (mkL t F) wr2 (mkL_len _ _) (unhide HNM) (by omega) (Nat.le_refl _) (unhide HYS).1 (small_mk _ _ fun i _ => by have := (unhide HFB) i; unfold In64; omega) ((unhide HQ).below (unhide HBs))).mono ?_
          rintro e v0 ⟨r0, rfl, hl, hb⟩
          have HY0 := hide (And.intro ((unhide HYS).1.below hb) (And.intro ((unhide HYS).2.1.below hb) (And.intro ((unhide HYS).2.2.1.below hb) (And.intro ((unhide HYS).2.2.2.1.below hb) ((unhide HYS).2.2.2.2.below hb)))))
          have HBY0 := hide (below_trans (unhide HBs) hb)
          have HR0x0 := hide hl
          clear hl hb HYS
          go_wp2_with fail
          refine (dct_yes _ _ t t (mkL t fun i => F (t - 1 - i)) v0 (mkL_len _ _) (unhide HNM) (by omega) (Nat.le_refl _) (unhide HY0).2.1 (small_mk _ _ fun i _ => by have := (unhide HFB) (t - 1 - i); unfold In64; omega) ((unhide HQ).below (unhide HBY0))).mono ?_
          rintro e v1 ⟨r1, rfl, hl, hb⟩
          have HY1 := hide (And.intro ((unhide HY0).1.below hb) (And.intro ((unhide HY0).2.1.below hb) (And.intro ((unhide HY0).2.2.1.below hb) (And.intro ((unhide HY0).2.2.2.1.below hb) ((unhide HY0).2.2.2.2.below hb)))))
          have HBY1 := hide (below_trans (unhide HBY0) hb)
          have HR1x1 := hide hl
          have HR0x1 := hide ((unhide HR0x0).below hb)
          clear hl hb HY0 HR0x0 HBY0
          go_wp2_with fail
          refine (dct_yes _ _ t t (mkL t fun i => F i / 16384 * 16384) v1 (mkL_len _ _) (unhide HNM) (by omega) (Nat.le_refl _) (unhide HY1).2.2.1 (small_mk _ _ fun i _ => by have := (unhide HFB) i; unfold In64; omega) ((unhide HQ).below (unhide HBY1))).mono ?_
          rintro e v2 ⟨r2, rfl, hl, hb⟩
          have HY2 := hide (And.intro ((unhide HY1).1.below hb) (And.intro ((unhide HY1).2.1.below hb) (And.intro ((unhide HY1).2.2.1.below hb) (And.intro ((unhide HY1).2.2.2.1.below hb) ((unhide HY1).2.2.2.2.below hb)))))
          have HBY2 := hide (below_trans (unhide HBY1) hb)
          have HR2x2 := hide hl
          have HR0x2 := hide ((unhide HR0x1).below hb)
          have HR1x2 := hide ((unhide HR1x1).below hb)
          clear hl hb HY1 HR0x1 HR1x1 HBY1
          go_wp2_with fail
          refine (dct_yes _ _ t t (mkL t fun i => G i / 274877906944 * 16384) v2 (mkL_len _ _) (unhide HNM) (by omega) (Nat.le_refl _) (unhide HY2).2.2.2.1 (small_mk _ _ fun i _ => by have := (unhide HGB) i; unfold In64 at this ⊢; omega) ((unhide HQ).below (unhide HBY2))).mono ?_
          rintro e v3 ⟨r3, rfl, hl, hb⟩
          have HY3 := hide (And.intro ((unhide HY2).1.below hb) (And.intro ((unhide HY2).2.1.below hb) (And.intro ((unhide HY2).2.2.1.below hb) (And.intro ((unhide HY2).2.2.2.1.below hb) ((unhide HY2).2.2.2.2.below hb)))))
          have HBY3 := hide (below_trans (unhide HBY2) hb)
          have HR3x3 := hide hl
          have HR0x3 := hide ((unhide HR0x2).below hb)
          have HR1x3 := hide ((unhide HR1x2).below hb)
          have HR2x3 := hide ((unhide HR2x2).below hb)
          clear hl hb HY2 HR0x2 HR1x2 HR2x2 HBY2
          go_wp2_with fail
          refine (dct_yes _ _ t t (mkL t fun i => F i / 16384 * 16384 + G i / 274877906944 * 16384) v3 (mkL_len _ _) (unhide HNM) (by omega) (Nat.le_refl _) (unhide HY3).2.2.2.2 (small_mk _ _ fun i _ => by have := (unhide HFB) i; have := (unhide HGB) i; unfold In64 at this ⊢; omega) ((unhide HQ).below (unhide HBY3))).mono ?_
          rintro e v4 ⟨r4, rfl, hl, hb⟩
          have HY4 := hide (And.intro ((unhide HY3).1.below hb) (And.intro ((unhide HY3).2.1.below hb) (And.intro ((unhide HY3).2.2.1.below hb) (And.intro ((unhide HY3).2.2.2.1.below hb) ((unhide HY3).2.2.2.2.below hb)))))
          have HBY4 := hide (below_trans (unhide HBY3) hb)
          have HR4x4 := hide hl
          have HR0x4 := hide ((unhide HR0x3).below hb)
          have HR1x4 := hide ((unhide HR1x3).below hb)
          have HR2x4 := hide ((unhide HR2x3).below hb)
          have HR3x4 := hide ((unhide HR3x3).below hb)
          clear hl hb HY3 HR0x3 HR1x3 HR2x3 HR3x3 HBY3
          have TB := hide (coefs_told t F G (unhide HNM) (unhide HFB) (unhide HGB))
          go_wp2
          go_loopw [22] (fun j wr => ∃ k : Nat, k ≤ t ∧ j = .int .i64 (k : Int) ∧ Hid (∃ d, wr = v4.drewN d))
            (fun j _ => t - (intOf j).toNat)
          case atStart => exact ⟨0, by omega, rfl, 0, rfl⟩
          case round =>
            obtain ⟨k, hk, rfl, HD⟩ := hrel
            obtain ⟨wr3, rfl⟩ : ∃ x, x = wr := ⟨_, rfl⟩
            by_cases hlt3 : k < t
            · obtain ⟨T1, T2, T3, T4⟩ := (unhide TB) k hlt3
              have q0 : wr3.cell? ⟨r0, k, none⟩ = some (.int .i64 (coefI k (mkL t F))) := by
                obtain ⟨d, rfl⟩ := unhide HD
                exact told_at (unhide HR0x4) hlt3
              have q1 : wr3.cell? ⟨r1, k, none⟩ = some (.int .i64 (coefI k (mkL t fun i => F (t - 1 - i)))) := by
                obtain ⟨d, rfl⟩ := unhide HD
                exact told_at (unhide HR1x4) hlt3
              have q2 : wr3.cell? ⟨r2, k, none⟩ = some (.int .i64 (coefI k (mkL t fun i => F i / 16384 * 16384))) := by
                obtain ⟨d, rfl⟩ := unhide HD
                exact told_at (unhide HR2x4) hlt3
              have q3 : wr3.cell? ⟨r3, k, none⟩ = some (.int .i64 (coefI k (mkL t fun i => G i / 274877906944 * 16384))) := by
                obtain ⟨d, rfl⟩ := unhide HD
                exact told_at (unhide HR3x4) hlt3
              have q4 : wr3.cell? ⟨r4, k, none⟩ = some (.int .i64 (coefI k (mkL t fun i => F i / 16384 * 16384 + G i / 274877906944 * 16384))) := by
                obtain ⟨d, rfl⟩ := unhide HD
                exact told_at (unhide HR4x4) hlt3
              obtain ⟨a0, n0⟩ : ∃ z, coefI k (mkL t F) = z := ⟨_, rfl⟩
              rw [n0] at q0
              obtain ⟨b0, n1⟩ : ∃ z, coefI k (mkL t fun i => F (t - 1 - i)) = z := ⟨_, rfl⟩
              rw [n1] at q1
              obtain ⟨x0, n2⟩ : ∃ z, coefI k (mkL t fun i => F i / 16384 * 16384) = z := ⟨_, rfl⟩
              rw [n2] at q2
              obtain ⟨y0, n3⟩ : ∃ z, coefI k (mkL t fun i => G i / 274877906944 * 16384) = z := ⟨_, rfl⟩
              rw [n3] at q3
              obtain ⟨z0, n4⟩ : ∃ z, coefI k (mkL t fun i => F i / 16384 * 16384 + G i / 274877906944 * 16384) = z := ⟨_, rfl⟩
              rw [n4] at q4
              rw [n0, n1] at T1 T2
              rw [n2, n3, n4] at T3
              rw [n4] at T4
              clear n0 n1 n2 n3 n4
              have hkt : (k : Int) < (t : Int) := by omega
              have w1 : IntKind.i64.wrap (x0 + y0) = z0 := by rw [T3, IntKind.wrap_i64]; omega
              obtain ⟨of, hof⟩ : ∃ of, a0 + b0 = of := ⟨_, rfl⟩
              have w2 : IntKind.i64.wrap (a0 + b0) = of := by rw [IntKind.wrap_i64]; omega
              by_cases c : k % 2 = 1
              · rw [if_pos c, hof] at T1
                have hp : (k : Int) % 2 = 1 := by omega
                have h0 : of = 0 ∨ of = 1 := T1
                clear T1 T2 T3 T4
                rcases h0 with rfl | rfl
                all_goals (
                  go_wp2_with fail
                  go_quiet (fail)
                  obtain ⟨w5, hw5⟩ : ∃ w5, wr3.drewN nq = w5 := ⟨_, rfl⟩
                  have p0 : w5.cell? ⟨r0, k, none⟩ = some (.int .i64 a0) := by rw [← hw5]; exact q0
                  have p1 : w5.cell? ⟨r1, k, none⟩ = some (.int .i64 b0) := by rw [← hw5]; exact q1
                  have p2 : w5.cell? ⟨r2, k, none⟩ = some (.int .i64 x0) := by rw [← hw5]; exact q2
                  have p3 : w5.cell? ⟨r3, k, none⟩ = some (.int .i64 y0) := by rw [← hw5]; exact q3
                  have p4 : w5.cell? ⟨r4, k, none⟩ = some (.int .i64 z0) := by rw [← hw5]; exact q4
                  have HD5 := hide (show ∃ d, w5 = v4.drewN d by obtain ⟨d, hd⟩ := unhide HD; exact ⟨d + nq, by rw [← hw5, hd, World.drewN_drewN]⟩)
                  rw [hw5]
                  clear hw5 q0 q1 q2 q3 q4
                  go_wp2_with fail
                  go_quiet (fail)
                  go_wp2
                  go_roundw
                  case rel => exact ⟨k + 1, by omega, by simp, by obtain ⟨d, rfl⟩ := unhide HD5; exact ⟨_, World.drewN_drewN _ _ _⟩⟩
                  case measure => simp [intOf]; omega)
              · rw [if_neg c] at T1
                have hp : (k : Int) % 2 = 0 := by omega
                subst T1
                clear T2 T3 T4
                go_wp2_with fail
                go_quiet (fail)
                obtain ⟨w5, hw5⟩ : ∃ w5, wr3.drewN nq = w5 := ⟨_, rfl⟩
                have p0 : w5.cell? ⟨r0, k, none⟩ = some (.int .i64 a0) := by rw [← hw5]; exact q0
                have p1 : w5.cell? ⟨r1, k, none⟩ = some (.int .i64 a0) := by rw [← hw5]; exact q1
                have p2 : w5.cell? ⟨r2, k, none⟩ = some (.int .i64 x0) := by rw [← hw5]; exact q2
                have p3 : w5.cell? ⟨r3, k, none⟩ = some (.int .i64 y0) := by rw [← hw5]; exact q3
                have p4 : w5.cell? ⟨r4, k, none⟩ = some (.int .i64 z0) := by rw [← hw5]; exact q4
                have HD5 := hide (show ∃ d, w5 = v4.drewN d by obtain ⟨d, hd⟩ := unhide HD; exact ⟨d + nq, by rw [← hw5, hd, World.drewN_drewN]⟩)
                rw [hw5]
                clear hw5 q0 q1 q2 q3 q4
                go_wp2_with fail
                go_quiet (fail)
                go_wp2
                go_roundw
                case rel => exact ⟨k + 1, by omega, by simp, by obtain ⟨d, rfl⟩ := unhide HD5; exact ⟨_, World.drewN_drewN _ _ _⟩⟩
                case measure => simp [intOf]; omega
            · obtain rfl : k = t := by omega
              have hbd : Below v4.heap.size v4 wr3 := by obtain ⟨d, rfl⟩ := unhide HD; exact below_drewN v4 d
              have HB9 := hide (below_trans (unhide HBY4) hbd)
              clear hbd
              go_wp2
              go_ret
              exact ⟨rfl, unhide HB9⟩
end Go.Proofs.YtednmdammpkoeaaDoor
