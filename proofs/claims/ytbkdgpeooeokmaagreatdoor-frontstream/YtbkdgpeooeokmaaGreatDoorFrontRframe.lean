/- The document's frame of a front. -/
import Derived.Test.YtbkdgpeooeokmaaGreatDoorFrontRown
namespace Go.Proofs.YtbkdgpeooeokmaaGreatDoor
open Go.RowKit
set_option linter.unusedVariables false

set_option maxRecDepth 100000 in
set_option maxHeartbeats 1600000 in
theorem rframe_low (n h B C : Nat) (hop pre : Int) (a : Option Addr) (cap : Nat) (ys : List Int) (w : World) (hr : rightF (n : Int) hop (B : Int) (C : Int) pre) (hh : n = 2 * h) (hm : mayN h) (hl : Lies w a ys) (hy : ys.length = n) (hall : allIn ys (-65536) 65536 = true) :
    Calls Tryz.prog 9 #[.agg #[.int .i64 (n : Int), .int .i64 hop, .int .i64 (B : Int), .int .i64 (C : Int), .int .i64 pre], .slice a n cap] w (ToldC (frameI n B C ys) w) := by
  obtain ⟨i0, hi, hz0, hz1, hz2⟩ := info_parts Tryz.info3
  have HI : Hid (Tryz.prog.info? 3 = some i0 ∧ i0.zero = some (.int .i64 0) ∧ i0.size = 1 ∧ i0.bytes = 8) := ⟨hi, hz0, hz1, hz2⟩
  have hn64 : n = 16 ∨ n = 32 ∨ n = 64 := by have := hr.1; omega
  have hB : mayD B := by have := hr.2.2.2.1; unfold mayD; omega
  have hB16 := (mayD_le hB).2
  have hB4 := (mayD_le hB).1
  have hC1 : 1 ≤ C := by have := hr.2.2.2.2.1; omega
  have hC2 : C ≤ B := by have := hr.2.2.2.2.2.1; omega
  have HRT := hide (decide_eq_true hr)
  have HAL := hide hall
  have HL := hide hl
  have HY := hide hy
  have HM := hide hm
  have HH := hide hh
  have HB := hide hB
  have HN64 := hide hn64
  have hn1 : n ≤ 64 := by omega
  have hn0 : 16 ≤ n := by omega
  clear hr hall hl hy hm hh hB hn64 hi hz0 hz1 hz2
  go_enter Tryz.func9, Tryz.ntmps9
  obtain ⟨W0, hW0⟩ : ∃ W0, w.alloc (.cells #[.int .i64 (n : Int), .int .i64 hop, .int .i64 (B : Int), .int .i64 (C : Int), .int .i64 pre] 23) = W0 := ⟨_, rfl⟩
  obtain ⟨F, hF⟩ : ∃ F, w.heap.size = F := ⟨_, rfl⟩
  have f0 : W0.cell? ⟨F, 0, none⟩ = some (.int .i64 (n : Int)) := by rw [← hW0, ← hF, World.cell?_alloc_at _ _ _ _ rfl]; rfl
  have f1 : W0.cell? ⟨F, 1, none⟩ = some (.int .i64 hop) := by rw [← hW0, ← hF, World.cell?_alloc_at _ _ _ _ rfl]; rfl
  have f2 : W0.cell? ⟨F, 2, none⟩ = some (.int .i64 (B : Int)) := by rw [← hW0, ← hF, World.cell?_alloc_at _ _ _ _ rfl]; rfl
  have f3 : W0.cell? ⟨F, 3, none⟩ = some (.int .i64 (C : Int)) := by rw [← hW0, ← hF, World.cell?_alloc_at _ _ _ _ rfl]; rfl
  have f4 : W0.cell? ⟨F, 4, none⟩ = some (.int .i64 pre) := by rw [← hW0, ← hF, World.cell?_alloc_at _ _ _ _ rfl]; rfl
  have HFF := hide (show F < W0.heap.size ∧ W0.cell? ⟨F, 0, none⟩ = some (.int .i64 (n : Int)) ∧ W0.cell? ⟨F, 2, none⟩ = some (.int .i64 (B : Int)) ∧ W0.cell? ⟨F, 3, none⟩ = some (.int .i64 (C : Int)) from ⟨by rw [← hW0, ← hF]; simp, f0, f2, f3⟩)
  have HBW := hide (show Below w.heap.size w W0 by rw [← hW0]; exact alloc_below w _)
  go_wp2_with fail
  clear hW0 hF
  refine (rright_any (n : Int) hop (B : Int) (C : Int) pre W0).mono ?_
  rintro e w1 ⟨rfl, hb⟩
  rw [unhide HRT]
  have HB1 := hide hb
  have HL1 := hide ((unhide HL).below (below_trans (unhide HBW) hb))
  have g0 : w1.cell? ⟨F, 0, none⟩ = some (.int .i64 (n : Int)) := (hb.cell (p := ⟨F, 0, none⟩) (unhide HFF).1).trans (unhide HFF).2.1
  have hF1 : w1.cell? ⟨F, 2, none⟩ = some (.int .i64 (B : Int)) ∧ w1.cell? ⟨F, 3, none⟩ = some (.int .i64 (C : Int)) := ⟨(hb.cell (p := ⟨F, 2, none⟩) (unhide HFF).1).trans (unhide HFF).2.2.1, (hb.cell (p := ⟨F, 3, none⟩) (unhide HFF).1).trans (unhide HFF).2.2.2⟩
  clear hb f0 f1 f2 f3 f4
  go_wp2_with fail
  refine (rall_any a cap n ys (-65536) 65536 w1 (unhide HL1) (unhide HY) (by omega)).mono ?_
  rintro e w2 ⟨rfl, rfl⟩
  rw [unhide HAL]
  have HFF1 := hide hF1
  clear hF1
  go_wp2_with fail
  refine (rwindow_any (n : Int) w2).mono ?_
  rintro e w3 ⟨aw, cw, rfl, hlw, hb⟩
  obtain ⟨nw, hnw⟩ : ∃ nw, (winI (n : Int)).length = nw := ⟨_, rfl⟩
  rw [hnw]
  obtain rfl : n = nw := by rw [← hnw, fwin_len n (unhide HN64)]
  have HW := hide (fwin_lies n (unhide HN64) hlw)
  have HB3 := hide (below_trans (unhide HBW) (below_trans (unhide HB1) hb))
  have HL3 := hide ((unhide HL1).below hb)
  have g0 : w3.cell? ⟨F, 0, none⟩ = some (.int .i64 (n : Int)) := (hb.cell (p := ⟨F, 0, none⟩) (lt_of_cell g0)).trans g0
  have g2 : w3.cell? ⟨F, 2, none⟩ = some (.int .i64 (B : Int)) := (hb.cell (p := ⟨F, 2, none⟩) (lt_of_cell (unhide HFF1).1)).trans (unhide HFF1).1
  have g3 : w3.cell? ⟨F, 3, none⟩ = some (.int .i64 (C : Int)) := (hb.cell (p := ⟨F, 3, none⟩) (lt_of_cell (unhide HFF1).2)).trans (unhide HFF1).2
  clear hb hlw hnw
  go_wp2
  go_loopw [9, 8] (fun i v wr => ∃ t : Nat, t ≤ n ∧ i = .int .i64 (t : Int) ∧ Hid (wr.ownsRow w3.heap.size 3 1 v t (ints (mkL t fun t => halfI (ys.getD t 0 * winAt n t) 14))) ∧ Hid (Below w3.heap.size w3 wr))
    (fun i _ _ => n - (intOf i).toNat)
  case atStart => exact ⟨0, by omega, rfl, World.ownsRow_nil _ _ _ _, Below.refl _ _⟩
  case round =>
    obtain ⟨t, ht, rfl, HOr, HBr⟩ := hrel
    have q0 : wr.cell? ⟨F, 0, none⟩ = some (.int .i64 (n : Int)) := ((unhide HBr).cell (p := ⟨F, 0, none⟩) (lt_of_cell g0)).trans g0
    by_cases hlt : t < n
    · obtain ⟨ba, oa, rfl, hlta, hca⟩ := (unhide HL3).some (by intro h; have := unhide HY; subst h; simp at this; omega)
      obtain ⟨b1, o1, rfl, hlt1, hc1⟩ := (unhide HW).some (by intro h; have := mkL_len n (winAt n); rw [h] at this; simp at this; omega)
      obtain ⟨y, hy⟩ : ∃ y, ys.getD t 0 = y := ⟨_, rfl⟩
      obtain ⟨c, hc⟩ : ∃ c, winAt n t = c := ⟨_, rfl⟩
      have cy : wr.cell? ⟨ba, oa + t, none⟩ = some (.int .i64 y) := by rw [(unhide HBr).cell (p := ⟨ba, _, none⟩) hlta, ← hy]; exact hca t (by rw [unhide HY]; exact hlt)
      have cc : wr.cell? ⟨b1, o1 + t, none⟩ = some (.int .i64 c) := by
        rw [(unhide HBr).cell (p := ⟨b1, _, none⟩) hlt1, hc1 t (by rw [mkL_len]; exact hlt), mkL_at _ _ _ hlt, hc]
      have hyb := allIn_at (unhide HAL) t (by rw [unhide HY]; exact hlt)
      have hcb := winAt_bd n t
      rw [hy] at hyb
      rw [hc] at hcb
      have hPb := mul_bd y c 65536 16384 (by decide) (by decide) (by omega) (by omega)
      obtain ⟨P, hP⟩ : ∃ P, y * c = P := ⟨_, rfl⟩
      rw [hP] at hPb
      obtain ⟨z, hz⟩ : ∃ z, halfI P 14 = z := ⟨_, rfl⟩
      have HC : Hid (∀ w0, Calls Tryz.prog 24 #[.int .i64 P, .int .i64 14] w0 fun e w' => e = .returned (.int .i64 z) ∧ w' = w0) := fun w0 => by rw [← hz]; exact rhalf_any P 14 w0 ⟨by omega, by omega⟩
      have HX := hide (mk_step (fun t => halfI (ys.getD t 0 * winAt n t) 14) t z (by show halfI (ys.getD t 0 * winAt n t) 14 = z; rw [hy, hc, hP, hz]))
      obtain ⟨t1, ht1⟩ : ∃ t1, t + 1 = t1 := ⟨_, rfl⟩
      have HT1 := hide ht1
      rw [ht1] at HX
      obtain ⟨LL, hLL⟩ : ∃ LL, ints (mkL t fun t => halfI (ys.getD t 0 * winAt n t) 14) = LL := ⟨_, rfl⟩
      rw [hLL] at HOr HX
      have htn : (t : Int) < (n : Int) := by omega
      have hPw : IntKind.i64.wrap P = P := by rw [IntKind.wrap_i64]; omega
      have hown := unhide HOr
      have hba : ba < wr.heap.size := by have := (unhide HBr).size; omega
      have hb1 : b1 < wr.heap.size := by have := (unhide HBr).size; omega
      have hr1 : ∀ j, j = ba → Value.ownBlock u8 ≠ some j := fun j hj e => by have := (hown.lt j e).1; omega
      have hr2 : ∀ j, j = b1 → Value.ownBlock u8 ≠ some j := fun j hj e => by have := (hown.lt j e).1; omega
      clear hca hc1 hy hc hz hLL ht1 g0 g2 g3 HOr
      go_wp2_with fail
      go_region_held3 (fun w' => w'.cell? ⟨ba, oa + t, none⟩ = some (.int .i64 y) ∧ w'.cell? ⟨b1, o1 + t, none⟩ = some (.int .i64 c)) (first | exact ⟨cy, cc⟩ | exact ⟨keep_grown hg3 hba hr1 cy, keep_grown hg3 hb1 hr2 cc⟩ | go_keep) (first | (refine step_append_lies _ (by rfl) _ _ 26 (by rfl) w3.heap.size 3 i0 (.int .i64 0) 1 8 Tryz.underlying26 (unhide HI).1 (unhide HI).2.1 (unhide HI).2.2.1 (unhide HI).2.2.2 (by rfl) (by decide) _ t _ (by rfl) (hown.alloc _) ⟨wr.heap.size, 0, none⟩ 1 1 [.int .i64 z] (by rfl) (by rfl) (cell_one_new _ _ _) (ints_one [z]) (by decide) (by unfold maxLen; omega) (by omega) (by have := (unhide HBr).size; simp; omega) (wr.heap.size + 1) (by simp) ?_; intro g cp w4 hown3 hg3 hat3 hlt3) | (go_at_call 24; (with_reducible refine (unhide HC _).mono ?_); rintro e w' ⟨rfl, rfl⟩))
      have hgr : ∀ q, Value.ownBlock u8 = some q → w3.heap.size ≤ q := fun q hq => (hown.lt q hq).1
      have HB4 := hide (((unhide HBr).alloc (unhide HBr).size _).drew.grown hg3 (by have := (unhide HBr).size; simp; omega) hgr)
      rw [← unhide HX, ← unhide HT1] at hown3
      have HO4 := hide hown3
      clear hown3 hg3 hat3 hlt3 hgr hown
      go_wp2
      go_roundw
      case rel => exact ⟨t + 1, by omega, by simp, HO4, HB4⟩
      case measure => simp [intOf]; omega
    · obtain rfl : t = n := by omega
      obtain ⟨w4, rfl⟩ : ∃ w4, w4 = wr := ⟨_, rfl⟩
      obtain ⟨a5, c5, rfl, hl5, hlen5⟩ := owned_lies (unhide HOr)
      rw [mkL_len]
      have HZ := hide (show Lies w4 a5 (winnedL t ys) from hl5)
      have p0 : w4.cell? ⟨F, 0, none⟩ = some (.int .i64 (t : Int)) := q0
      have p2 : w4.cell? ⟨F, 2, none⟩ = some (.int .i64 (B : Int)) := ((unhide HBr).cell (p := ⟨F, 2, none⟩) (lt_of_cell g2)).trans g2
      have p3 : w4.cell? ⟨F, 3, none⟩ = some (.int .i64 (C : Int)) := ((unhide HBr).cell (p := ⟨F, 3, none⟩) (lt_of_cell g3)).trans g3
      have HB4 := hide (below_trans (unhide HB3) (unhide HBr))
      have HZS := hide (show Small (winnedL t ys) from small_mk _ _ fun i hi => by
        have hyb := allIn_at (unhide HAL) i (by rw [unhide HY]; exact hi)
        have hcb := winAt_bd t i
        have := mul_bd (ys.getD i 0) (winAt t i) 65536 16384 (by decide) (by decide) (by omega) (by omega)
        exact fhalf_in _ _ ⟨by omega, by omega⟩)
      clear hl5 hlen5 HOr HBr q0 g0 g2 g3
      go_wp2_with fail
      refine (rbins_yes a5 c5 t h (winnedL t ys) w4 (unhide HZ) (unhide HZS) (winned_len _ _) (unhide HH) (unhide HM)).mono ?_
      rintro e w5 ⟨r1, r2, d1, d2, rfl, hr1, hr2, hb⟩
      have HR1 := hide hr1
      have HR2 := hide hr2
      have HB5 := hide (below_trans (unhide HB4) hb)
      have q0 : w5.cell? ⟨F, 0, none⟩ = some (.int .i64 (t : Int)) := (hb.cell (p := ⟨F, 0, none⟩) (lt_of_cell p0)).trans p0
      have q2 : w5.cell? ⟨F, 2, none⟩ = some (.int .i64 (B : Int)) := (hb.cell (p := ⟨F, 2, none⟩) (lt_of_cell p2)).trans p2
      have q3 : w5.cell? ⟨F, 3, none⟩ = some (.int .i64 (C : Int)) := (hb.cell (p := ⟨F, 3, none⟩) (lt_of_cell p3)).trans p3
      clear hr1 hr2 hb p0 p2 p3
      obtain ⟨sh, hsh⟩ : ∃ sh, movS h (winnedL t ys) = sh := ⟨_, rfl⟩
      have hshb := fmov_bd h (winnedL t ys)
      obtain ⟨PA, hPA⟩ : ∃ PA, downL (movS h (winnedL t ys)) (partsL cosC h (winnedL t ys)) = PA := ⟨_, rfl⟩
      obtain ⟨PB, hPB⟩ : ∃ PB, downL (movS h (winnedL t ys)) (partsL sinC h (winnedL t ys)) = PB := ⟨_, rfl⟩
      have lA : PA.length = h + 1 := by rw [← hPA, down_len, parts_len]
      have lB : PB.length = h + 1 := by rw [← hPB, down_len, parts_len]
      have sA : Small PA := by rw [← hPA]; exact fdown_small _ _ (parts_small _ _ _)
      have sB : Small PB := by rw [← hPB]; exact fdown_small _ _ (parts_small _ _ _)
      rw [hPA] at HR1
      rw [hPB] at HR2
      rw [hsh] at hshb ⊢
      have hh2 : t = 2 * h := unhide HH
      have hth : (t : Int) / 2 = (h : Int) := by omega
      have hth2 : (t : Int).tdiv 2 = (h : Int) := by rw [Int.tdiv_eq_ediv_of_nonneg (by omega)]; exact hth
      obtain ⟨h1, hh1⟩ : ∃ h1, h + 1 = h1 := ⟨_, rfl⟩
      have hh1i : (h : Int) + 1 = (h1 : Int) := by omega
      have hh1w : IntKind.i64.wrap ((h : Int) + 1) = (h1 : Int) := by rw [IntKind.wrap_i64]; omega
      rw [hh1] at lA lB ⊢
      have lP : (powL PA PB).length = h1 := by rw [powL_len, lA, lB]; omega
      have eE : edgesI (h1 : Int) (B : Int) = edgesL h1 B := edgesI_yes h1 B (by omega) (by omega) (by omega) (by omega)
      have lE : (edgesL h1 B).length = B + 2 := by rw [edgesL, mkL_len]
      have lN : (bandsL (powL PA PB) (edgesL h1 B)).length = B := by rw [bands_len, lE]; omega
      have HFR := hide (show frameI t B C ys = dctL C (mkL B fun m => (logsL (bandsL (powL PA PB) (edgesL h1 B))).getD m 0 + 512 * sh) by
        unfold frameI loudL
        rw [show t / 2 = h by omega, hPA, hPB, hsh, hh1])
      have HLEN := hide (And.intro lA (And.intro lB (And.intro sA (And.intro sB (And.intro lP (And.intro lE lN))))))
      have HEE := hide eE
      clear hPA hPB lA lB sA sB lP eE lE lN hh2
      obtain ⟨D, hD⟩ : ∃ D, w5.heap.size = D := ⟨_, rfl⟩
      obtain ⟨W6, hW6⟩ : ∃ W6, w5.alloc (.cells #[.slice r1 h1 d1, .slice r2 h1 d2, .int .i64 sh] 53) = W6 := ⟨_, rfl⟩
      have b0 : W6.cell? ⟨D, 0, none⟩ = some (.slice r1 h1 d1) := by rw [← hW6, ← hD, World.cell?_alloc_at _ _ _ _ rfl]; rfl
      have b1 : W6.cell? ⟨D, 1, none⟩ = some (.slice r2 h1 d2) := by rw [← hW6, ← hD, World.cell?_alloc_at _ _ _ _ rfl]; rfl
      have b2 : W6.cell? ⟨D, 2, none⟩ = some (.int .i64 sh) := by rw [← hW6, ← hD, World.cell?_alloc_at _ _ _ _ rfl]; rfl
      have hbel : Below w5.heap.size w5 W6 := by rw [← hW6]; exact alloc_below w5 _
      have m0 : W6.cell? ⟨F, 0, none⟩ = some (.int .i64 (t : Int)) := (hbel.cell (p := ⟨F, 0, none⟩) (lt_of_cell q0)).trans q0
      have m2 : W6.cell? ⟨F, 2, none⟩ = some (.int .i64 (B : Int)) := (hbel.cell (p := ⟨F, 2, none⟩) (lt_of_cell q2)).trans q2
      have m3 : W6.cell? ⟨F, 3, none⟩ = some (.int .i64 (C : Int)) := (hbel.cell (p := ⟨F, 3, none⟩) (lt_of_cell q3)).trans q3
      have HB6 := hide (below_trans (unhide HB5) hbel)
      have L1 := (unhide HR1).below hbel
      have L2 := (unhide HR2).below hbel
      clear hbel q0 q2 q3
      go_wp2_with fail
      clear hW6 hD
      have keep : ∀ {w' : World}, Below W6.heap.size W6 w' → w'.cell? ⟨D, 0, none⟩ = some (.slice r1 h1 d1) ∧ w'.cell? ⟨D, 1, none⟩ = some (.slice r2 h1 d2) ∧ w'.cell? ⟨F, 0, none⟩ = some (.int .i64 (t : Int)) ∧ w'.cell? ⟨F, 2, none⟩ = some (.int .i64 (B : Int)) := fun hb =>
        ⟨(hb.cell (p := ⟨D, 0, none⟩) (lt_of_cell b0)).trans b0, (hb.cell (p := ⟨D, 1, none⟩) (lt_of_cell b1)).trans b1, (hb.cell (p := ⟨F, 0, none⟩) (lt_of_cell m0)).trans m0, (hb.cell (p := ⟨F, 2, none⟩) (lt_of_cell m2)).trans m2⟩
      have hhw : IntKind.i64.wrap (h : Int) = (h : Int) := by rw [IntKind.wrap_i64]; omega
      have hh1ww : IntKind.i64.wrap (h1 : Int) = (h1 : Int) := by rw [IntKind.wrap_i64]; omega
      have hi1 : In64 (h1 : Int) := ⟨by omega, by omega⟩
      have hi2 : In64 (B : Int) := ⟨by omega, by omega⟩
      have hsE : Small (edgesL h1 B) := fedges_small h1 B (by omega) (by omega)
      have L1d : Lies W6.drew r1 PA := L1.below ⟨rfl, rfl, rfl, Nat.le_refl _, fun _ _ => rfl⟩
      have L2d : Lies W6.drew r2 PB := L2.below ⟨rfl, rfl, rfl, Nat.le_refl _, fun _ _ => rfl⟩
      go_region_held3 (fun w' => w'.cell? ⟨D, 0, none⟩ = some (.slice r1 h1 d1) ∧ w'.cell? ⟨D, 1, none⟩ = some (.slice r2 h1 d2) ∧ w'.cell? ⟨F, 0, none⟩ = some (.int .i64 (t : Int)) ∧ w'.cell? ⟨F, 2, none⟩ = some (.int .i64 (B : Int)))
        (first | exact ⟨b0, b1, m0, m2⟩ | exact keep hbL | exact keep hbN | exact keep hbE | exact keep hbP)
        (first
          | (go_at_call 26; go_must (with_reducible refine (rlogs_own _ _ _ (bandsL (powL PA PB) (edgesL h1 B)) _ hlN (fbands_small _ _) hnN (by omega)).mono ?_); rintro e w10 ⟨vL, rfl, hownL, hb10⟩; have hbL := below_trans hbN hb10)
          | (go_at_call 27; go_must (with_reducible refine (rbands_any _ _ _ (powL PA PB) _ _ _ (edgesL h1 B) _ (hlP.below hb8) (fpow_small _ _) hnP (by omega) hlE hsE hnE (by omega)).mono ?_); rintro e w9 ⟨aN, nN, cN, rfl, hnN, hlN, hb9⟩; have hbN := below_trans hbE hb9; obtain rfl : B = nN := (unhide HLEN).2.2.2.2.2.2.symm.trans hnN)
          | (go_at_call 29; go_must (with_reducible refine (redges_any (h1 : Int) (B : Int) _ hi1 hi2).mono ?_); rintro e w8 hT; rw [unhide HEE] at hT; obtain ⟨aE, nE, cE, rfl, hnE, hlE, hb8⟩ := hT; have hbE := below_trans hbP hb8; obtain rfl : B + 2 = nE := (unhide HLEN).2.2.2.2.2.1.symm.trans hnE)
          | (go_at_call 28; (with_reducible refine (rfpower_any r1 r2 h1 h1 d1 d2 PA PB W6.drew L1d L2d (unhide HLEN).2.2.1 (unhide HLEN).2.2.2.1 (unhide HLEN).1 (unhide HLEN).2.1 (by omega) (by omega)).mono ?_); rintro e w7 ⟨aP, nP, cP, rfl, hnP, hlP, hb7⟩; have hbP := spin_undrew hb7; obtain rfl : h1 = nP := (unhide HLEN).2.2.2.2.1.symm.trans hnP))
      obtain ⟨gl, cl, rfl, hgl⟩ := own_head hownL (by omega)
      have HOL := hide hownL
      have hbD : Below W6.heap.size W6 w10 := hbL
      have n2 : w10.cell? ⟨D, 2, none⟩ = some (.int .i64 sh) := (hbD.cell (p := ⟨D, 2, none⟩) (lt_of_cell b2)).trans b2
      have n3 : w10.cell? ⟨F, 3, none⟩ = some (.int .i64 (C : Int)) := (hbD.cell (p := ⟨F, 3, none⟩) (lt_of_cell m3)).trans m3
      have HB10 := hide (below_trans (unhide HB6) hbD)
      have hsz : D < w9.heap.size ∧ F < w9.heap.size := by
        have e1 := lt_of_cell b0
        have e2 := lt_of_cell m0
        have e3 := (below_trans hbE hb9).size
        exact ⟨by have : D < W6.heap.size := e1; omega, by have : F < W6.heap.size := e2; omega⟩
      have HSZ := hide (show D < gl ∧ F < gl ∧ w.heap.size ≤ gl from ⟨by omega, by omega, by
        have e3 := (below_trans (unhide HB6) hbN).size
        omega⟩)
      clear hownL hbL hbN hbE hbP hb7 hb8 hb9 hb10 hlP hlE hlN hsz L1d L2d L1 L2 b0 b1 b2 m0 m2 m3 keep hbD hnP hnE hnN HR1 HR2
      go_wp2
      obtain ⟨LG, hLG⟩ : ∃ LG, logsL (bandsL (powL PA PB) (edgesL h1 B)) = LG := ⟨_, rfl⟩
      rw [hLG] at HOL HFR
      have hLl : LG.length = B := by rw [← hLG, logs_len]; exact (unhide HLEN).2.2.2.2.2.2
      have HLB := hide (show ∀ m, m < B → 0 ≤ LG.getD m 0 ∧ LG.getD m 0 < 16384 from fun m hm => by
        rw [← hLG, logs_at _ _ (by rw [(unhide HLEN).2.2.2.2.2.2]; exact hm)]
        have := more_facts _ ((fbands_small (powL PA PB) (edgesL h1 B)).all m)
        exact ⟨this.1, this.2.1⟩)
      have hLM : LG = mkL B fun m => LG.getD m 0 := (mkL_eq LG B (fun m => LG.getD m 0) hLl fun _ _ => rfl).symm
      have HOM := hide (show w10.ownsRow w9.heap.size 3 1 (.slice (some ⟨gl, 0, none⟩) B cl) B (ints (dmixF B (fun m => LG.getD m 0 + 512 * sh) (fun m => LG.getD m 0) 0)) by
        rw [dmixF_zero, ← hLM]; exact unhide HOL)
      clear hLG hLl hLM HOL HLEN HEE
      go_loopw [12] (fun i wr => ∃ m : Nat, m ≤ B ∧ i = .int .i64 (m : Int) ∧ Hid (wr.ownsRow w9.heap.size 3 1 (.slice (some ⟨gl, 0, none⟩) B cl) B (ints (dmixF B (fun m => LG.getD m 0 + 512 * sh) (fun m => LG.getD m 0) m))) ∧ Hid (Below gl w10 wr))
        (fun i _ => B - (intOf i).toNat)
      case atStart => exact ⟨0, by omega, rfl, HOM, Below.refl _ _⟩
      case round =>
        obtain ⟨m, hm, rfl, HOr, HBr⟩ := hrel
        have k2 : wr.cell? ⟨D, 2, none⟩ = some (.int .i64 sh) := ((unhide HBr).cell (p := ⟨D, 2, none⟩) (unhide HSZ).1).trans n2
        have k3 : wr.cell? ⟨F, 3, none⟩ = some (.int .i64 (C : Int)) := ((unhide HBr).cell (p := ⟨F, 3, none⟩) (unhide HSZ).2.1).trans n3
        by_cases hlt2 : m < B
        · obtain ⟨x, hx⟩ : ∃ x, LG.getD m 0 = x := ⟨_, rfl⟩
          have hxb := unhide HLB m hlt2
          rw [hx] at hxb
          have hcell := (unhide HOr).cellAt m (by omega)
          rw [ints_at _ m (by rw [dmixF_len]; exact hlt2), dmixF_at _ _ _ _ hlt2, hx] at hcell
          have hfree := (unhide HOr).frozenAt m
          have HX := hide (dmixF_set B (fun m => LG.getD m 0 + 512 * sh) (fun m => LG.getD m 0) m (x + 512 * sh) hlt2 (by show LG.getD m 0 + 512 * sh = _; rw [hx]))
          have hmB : (m : Int) < (B : Int) := by omega
          clear hx k3
          go_wp2_with fail
          go_region
          go_wp2
          go_roundw
          case rel =>
            refine ⟨m + 1, by omega, by simp, ?_, ((unhide HBr).setCell (Nat.le_refl _) _).drew⟩
            have h := ((unhide HOr).stored m (.int .i64 (x + 512 * sh))).1
            rw [ints_set, unhide HX] at h
            exact h
          case measure => simp [intOf]; omega
        · obtain rfl : m = B := by omega
          have hfin := unhide HOr
          rw [dmixF_all] at hfin
          obtain ⟨a6, c6, e6, hl6, hlen6⟩ := owned_lies hfin
          have HLF := hide (show Lies wr (some ⟨gl, 0, none⟩) (mkL m fun m => LG.getD m 0 + 512 * sh) by
            injection e6 with e7 _ _
            rw [e7]; exact hl6)
          have HB11 := hide (show Below w.heap.size w wr from (unhide HB10).trans ((unhide HBr).mono (unhide HSZ).2.2))
          have HSS := hide (show Small (mkL m fun m => LG.getD m 0 + 512 * sh) from small_mk _ _ fun i hi => by have := unhide HLB i hi; constructor <;> omega)
          clear hfin e6 hl6 hlen6 k2
          go_wp2_with fail
          refine (rdct_low _ _ m C (mkL m fun m => LG.getD m 0 + 512 * sh) _ (mkL_len _ _) (unhide HB) hC1 hC2 (unhide HLF) (unhide HSS)).mono ?_
          rintro e w12 ⟨a7, l7, c7, rfl, hl7, hc71, hc72, hlies7, hs7, hq7, hb7⟩
          have HL7 := hide hl7
          have HLI7 := hide (And.intro hlies7 (And.intro hs7 (show ∀ q, a7 = some q → w.heap.size ≤ q.block from fun q hq => by have := hq7 q hq; have := (unhide HB11).size; omega)))
          have HB12 := hide (below_trans (unhide HB11) hb7)
          clear hl7 hlies7 hs7 hq7 hb7
          go_wp2_with fail
          go_ret
          exact ⟨_, _, _, rfl, by rw [unhide HFR]; exact unhide HL7, hc71, hc72, by rw [unhide HFR]; exact (unhide HLI7).1, (unhide HLI7).2.1, (unhide HLI7).2.2, unhide HB12⟩
theorem ToldC.told {xs : List Int} {w : World} {e : Ending} {w' : World} (h : ToldC xs w e w') : Told xs w e w' := by
  obtain ⟨a, l, c, h1, h2, _, _, h3, _, _, h4⟩ := h
  exact ⟨a, l, c, h1, h2, h3, h4⟩
theorem rframe_yes (n h B C : Nat) (hop pre : Int) (a : Option Addr) (cap : Nat) (ys : List Int) (w : World) (hr : rightF (n : Int) hop (B : Int) (C : Int) pre) (hh : n = 2 * h) (hm : mayN h) (hl : Lies w a ys) (hy : ys.length = n) (hall : allIn ys (-65536) 65536 = true) :
    Calls Tryz.prog 9 #[.agg #[.int .i64 (n : Int), .int .i64 hop, .int .i64 (B : Int), .int .i64 (C : Int), .int .i64 pre], .slice a n cap] w (Told (frameI n B C ys) w) :=
  (rframe_low n h B C hop pre a cap ys w hr hh hm hl hy hall).mono fun e w' h => h.told
end Go.Proofs.YtbkdgpeooeokmaaGreatDoor
