/- FrontFrames: the walk. -/
import Derived.Test.YtbkdgpeooeokmaaGreatDoorFrontFrame
import Derived.Test.YtbkdgpeooeokmaaGreatDoorFrontWake
import Derived.Deep.CutBlock
import Derived.Deep.DeepCutAuto
namespace Go.Proofs.YtbkdgpeooeokmaaGreatDoor
open Go.RowKit
set_option linter.unusedVariables false

theorem tmod_bd (y : Int) : -65536 ≤ y.tmod 65537 ∧ y.tmod 65537 ≤ 65536 := by
  have a := Int.tmod_lt_of_pos y (b := 65537) (by decide)
  have b := Int.lt_tmod_of_pos y (b := 65537) (by decide)
  omega

set_option maxRecDepth 100000 in
set_option maxHeartbeats 6400000 in
theorem frames_walk (s0 hop0 b0 c0 pre0 : Int) (hop coefs pre : Int) (wide many : Bool) (a : Option Addr) (len cap : Nat) (zs : List Int) (w : World) (hz : IsRow .i64 w a len cap zs) (hq : Quar w) :
    Calls Tryz.prog 3 #[.agg #[.int .i64 s0, .int .i64 hop0, .int .i64 b0, .int .i64 c0, .int .i64 pre0], .agg #[.int .i64 hop, .int .i64 coefs, .int .i64 pre, .bool wide, .bool many], .slice a len cap] w fun e w' => e = .returned (.bool true) ∧ Below w.heap.size w w' := by
  obtain ⟨i0, hi, hz0, hz1, hz2⟩ := info_parts Tryz.info3
  obtain ⟨xs, hxl, hx63, hxs, _⟩ := dct_row_all a len cap zs w hz
  have hlc : len ≤ cap := by
    rcases hz with ⟨_, rfl, rfl, _⟩ | ⟨x, _, h, _⟩
    · omega
    · exact h
  obtain ⟨n, p, B, C, r, hspc, hfront⟩ := spec_any hop coefs pre wide many
  obtain ⟨F, hF⟩ : ∃ F, w.heap.size = F := ⟨_, rfl⟩
  obtain ⟨W0, hW0⟩ : ∃ W0, (w.alloc (.cells #[.int .i64 s0, .int .i64 hop0, .int .i64 b0, .int .i64 c0, .int .i64 pre0] 23)).alloc (.cells #[.int .i64 hop, .int .i64 coefs, .int .i64 pre, .bool wide, .bool many] 25) = W0 := ⟨_, rfl⟩
  have HF := hide (show Cells W0 F [.int .i64 s0, .int .i64 hop0, .int .i64 b0, .int .i64 c0, .int .i64 pre0] by rw [← hW0, ← hF]; exact (cells_new w [.int .i64 s0, .int .i64 hop0, .int .i64 b0, .int .i64 c0, .int .i64 pre0] _).alloc _)
  have HG := hide (show Cells W0 (F + 1) [.int .i64 hop, .int .i64 coefs, .int .i64 pre, .bool wide, .bool many] by
    rw [← hW0, ← hF]
    have := cells_new (w.alloc (.cells #[.int .i64 s0, .int .i64 hop0, .int .i64 b0, .int .i64 c0, .int .i64 pre0] 23)) [.int .i64 hop, .int .i64 coefs, .int .i64 pre, .bool wide, .bool many] 25
    simpa using this)
  have HB := hide (show Below w.heap.size w W0 by rw [← hW0]; exact (alloc_below w _).alloc (by simp) _)
  have HQ := hide (hq.below (unhide HB))
  have HX := hide (hxs.below (unhide HB))
  have HXL := hide hxl
  have HS := hide hspc
  have HFR := hide hfront
  have hn16 : 16 ≤ n := by have := hspc.sz; omega
  have hn32 : n ≤ 32 := by have := hspc.sz; omega
  clear hq hxs hxl hz hspc hfront
  go_enter Tryz.func3, Tryz.ntmps3
  go_wp2_with fail
  clear hW0 hF
  refine (awake_any W0 (unhide HQ)).mono ?_
  rintro e w1 ⟨rfl, hb1⟩
  have HB1 := hide (below_trans (unhide HB) hb1)
  have HQ1 := hide ((unhide HQ).below hb1)
  have HX1 := hide ((unhide HX).below hb1)
  have HF1 := hide ((unhide HF).below hb1)
  have HG1 := hide ((unhide HG).below hb1)
  clear hb1
  go_upto_if 18 with fail
  go_cut [2] (fun l wc => ∃ m : Nat, l = .slice a m cap ∧ m ≤ 64 ∧ m ≤ len ∧ wc = w1)
  case first =>
    by_cases h64 : len ≤ 64
    · have h64i : ¬ (64 : Int) < (len : Int) := by omega
      go_wp2_with fail
      go_meet
      exact ⟨len, rfl, h64, Nat.le_refl _, rfl⟩
    · have h64i : (64 : Int) < (len : Int) := by omega
      have h64c : (64 : Int) ≤ (cap : Int) := by omega
      go_wp2_with fail
      go_meet
      exact ⟨64, rfl, Nat.le_refl _, by omega, rfl⟩
  case rest =>
    obtain ⟨m, rfl, hm64, hml, hwc⟩ := hcut
    subst hwc
    obtain ⟨ys, hys⟩ : ∃ ys, xs.take m = ys := ⟨_, rfl⟩
    have HYL := hide (show ys.length = m by rw [← hys, List.length_take, unhide HXL]; omega)
    have HYS := hide (show Lies wc a ys by rw [← hys]; exact lies_take (unhide HX1) m)
    clear hys
    obtain ⟨f0, f1, f2, f3, f4⟩ := show wc.cell? ⟨F + 1, 0, none⟩ = some (.int .i64 hop) ∧ wc.cell? ⟨F + 1, 1, none⟩ = some (.int .i64 coefs) ∧ wc.cell? ⟨F + 1, 2, none⟩ = some (.int .i64 pre) ∧ wc.cell? ⟨F + 1, 3, none⟩ = some (.bool wide) ∧ wc.cell? ⟨F + 1, 4, none⟩ = some (.bool many) from ⟨(unhide HG1).cell 0 _ rfl, (unhide HG1).cell 1 _ rfl, (unhide HG1).cell 2 _ rfl, (unhide HG1).cell 3 _ rfl, (unhide HG1).cell 4 _ rfl⟩
    go_wp2_with fail
    refine (unhide HFR wc).mono ?_
    rintro e w2 ⟨rfl, hb2⟩
    obtain ⟨G, hG⟩ : ∃ G, w2.heap.size = G := ⟨_, rfl⟩
    obtain ⟨W2, hW2⟩ : ∃ W2, w2.alloc (.cells #[.int .i64 (n : Int), .int .i64 (p : Int), .int .i64 (B : Int), .int .i64 (C : Int), .int .i64 r] 23) = W2 := ⟨_, rfl⟩
    have HG2 := hide (show Cells W2 G [.int .i64 (n : Int), .int .i64 (p : Int), .int .i64 (B : Int), .int .i64 (C : Int), .int .i64 r] by rw [← hW2, ← hG]; exact cells_new w2 [.int .i64 (n : Int), .int .i64 (p : Int), .int .i64 (B : Int), .int .i64 (C : Int), .int .i64 r] _)
    have hbw2 : Below wc.heap.size wc W2 := below_trans hb2 (by rw [← hW2]; exact alloc_below w2 _)
    have HBW2 := hide (below_trans (unhide HB1) hbw2)
    have HQW2 := hide ((unhide HQ1).below hbw2)
    have HYS2 := hide ((unhide HYS).below hbw2)
    have HF2 := hide ((unhide HF1).below hbw2)
    have g0 := (unhide HG2).cell 0 _ rfl
    clear hb2 hbw2 f0 f1 f2 f3 f4
    go_wp2_with (at_make; refine wpList_make_full _ rfl _ _ 26 rfl W2.heap.size 3 i0 (.int .i64 0) 1 Tryz.underlying26 hi hz0 hz1 _ _ _ _ n rfl rfl rfl rfl ?m1 ?m2 ?m3 ?_)
    case m1 => rw [hz2]; omega
    case m2 => unfold maxLen; omega
    case m3 => exact Nat.le_refl _
    intro w3 hown hgr
    rw [ints_zero] at hown
    have HO := hide (own_cells hown)
    have HB3 := hide ((Below.refl W2.heap.size W2).grown hgr (Nat.le_refl _) (fun _ h => by cases h))
    clear hown hgr hW2 hG g0
    go_wp2
    go_loopw [10] (fun i wr => ∃ (j : Nat) (Z : List Int), i = .int .i64 (j : Int) ∧ j ≤ n ∧ j ≤ m ∧ Hid (Z.length = n) ∧ Hid (∀ z ∈ Z, -65536 ≤ z ∧ z ≤ 65536) ∧ Hid (Cells wr W2.heap.size (ints Z)) ∧ Hid (Below W2.heap.size W2 wr))
      (fun i _ => n - (intOf i).toNat)
    case atStart => exact ⟨0, List.replicate n 0, rfl, by omega, by omega, hide (by simp), fun z hz => by obtain rfl := List.eq_of_mem_replicate hz; decide, HO, HB3⟩
    case round =>
      obtain ⟨j, Z, rfl, hjn, hjm, HZL, HZB, HOr, HBr⟩ := hrel
      by_cases hlt : j < n ∧ j < m
      · obtain ⟨h1, h2⟩ := hlt
        obtain ⟨ba, oa, rfl, hlta, hca⟩ := (unhide HYS2).some (by intro h; have := unhide HYL; subst h; simp at this; omega)
        obtain ⟨y, hy⟩ : ∃ y, ys.getD j 0 = y := ⟨_, rfl⟩
        have cy : wr.cell? ⟨ba, oa + j, none⟩ = some (.int .i64 y) := by rw [(unhide HBr).cell (p := ⟨ba, _, none⟩) hlta, ← hy]; exact hca j (by rw [unhide HYL]; exact h2)
        have hcell := (unhide HOr).cell j _ (ints_at _ j (by rw [unhide HZL]; exact h1))
        have hfree := (unhide HOr).free j
        have hjni : (j : Int) < (n : Int) := by omega
        have hjmi : (j : Int) < (m : Int) := by omega
        have htm := tmod_bd y
        clear hca hy HO HB3
        go_wp2_with fail
        go_roundw
        case rel =>
          refine ⟨j + 1, Z.set j (y.tmod 65537), by simp, by omega, by omega, by show _ = _; rw [List.length_set]; exact unhide HZL, fun z hz => ?_, ?_, (unhide HBr).setCell (Nat.le_refl _) _⟩
          · rcases List.mem_or_eq_of_mem_set hz with hz | rfl
            · exact unhide HZB z hz
            · exact htm
          · have := (unhide HOr).set j (.int .i64 (y.tmod 65537))
            rw [ints_set] at this
            exact this
        case measure => simp [intOf]; omega
      · have HLZ := hide (unhide HOr).lies
        have HAZ := hide (allIn_iff' (unhide HZB))
        have HBW := hide (below_trans (unhide HBW2) (unhide HBr))
        have HQr := hide ((unhide HQW2).below (unhide HBr))
        have HYr := hide ((unhide HYS2).below (unhide HBr))
        have HFr := hide ((unhide HF2).below (unhide HBr))
        have HGr := hide ((unhide HG2).below (unhide HBr))
        clear HOr HBr HO HB3
        have hne : (j = n) ∨ (j < n ∧ j = m) := by omega
        have HB0 := hide (Below.refl wr.heap.size wr)
        rcases hne with hj1 | ⟨hj1, hj2⟩
        case' inl =>
          have hjni : ¬ (j : Int) < (n : Int) := by omega
          clear hj1
        case' inr =>
          have hjni : (j : Int) < (n : Int) := by omega
          have hjmi : ¬ (j : Int) < (m : Int) := by omega
          clear hj1 hj2
        all_goals (
          go_upto_region 10 with fail
          go_cut [11] (fun x wx => x = .bool true ∧ Hid (Below wr.heap.size wr wx))
          case first =>
            have HFm : Hid (∀ w', Below wr.heap.size wr w' → Calls Tryz.prog 8 #[.agg #[.int .i64 s0, .int .i64 hop0, .int .i64 b0, .int .i64 c0, .int .i64 pre0], .slice a m cap] w' (Told (frameR s0 hop0 b0 c0 pre0 ys) w')) := fun w' hb => frame_any s0 hop0 b0 c0 pre0 _ _ _ ys w' ((unhide HYr).below hb) (unhide HYL) (by omega) ((unhide HQr).below hb)
            have HRm : Hid (∀ w', Below wr.heap.size wr w' → Calls Tryz.prog 9 #[.agg #[.int .i64 s0, .int .i64 hop0, .int .i64 b0, .int .i64 c0, .int .i64 pre0], .slice a m cap] w' (Told (frameR s0 hop0 b0 c0 pre0 ys) w')) := fun w' hb => rframe_any s0 hop0 b0 c0 pre0 _ _ _ ys w' ((unhide HYr).below hb) (unhide HYL) (by omega)
            have keep : ∀ {w' : World}, Below wr.heap.size wr w' → w'.cell? ⟨F, 0, none⟩ = some (.int .i64 s0) ∧ w'.cell? ⟨F, 1, none⟩ = some (.int .i64 hop0) ∧ w'.cell? ⟨F, 2, none⟩ = some (.int .i64 b0) ∧ w'.cell? ⟨F, 3, none⟩ = some (.int .i64 c0) ∧ w'.cell? ⟨F, 4, none⟩ = some (.int .i64 pre0) := fun hb => by
              have h := (unhide HFr).below hb
              exact ⟨h.cell 0 _ rfl, h.cell 1 _ rfl, h.cell 2 _ rfl, h.cell 3 _ rfl, h.cell 4 _ rfl⟩
            have keep0 := keep (unhide HB0)
            have hbd : Below wr.heap.size wr wr.drew := (unhide HB0).drew
            have hle := frameR_le s0 hop0 b0 c0 pre0 ys
            obtain ⟨LL, hLL⟩ : ∃ LL, frameR s0 hop0 b0 c0 pre0 ys = LL := ⟨_, rfl⟩
            rw [hLL] at HFm HRm hle
            clear hLL
            go_wp2_with fail
            go_region_held3 (fun w' => w'.cell? ⟨F, 0, none⟩ = some (.int .i64 s0) ∧ w'.cell? ⟨F, 1, none⟩ = some (.int .i64 hop0) ∧ w'.cell? ⟨F, 2, none⟩ = some (.int .i64 b0) ∧ w'.cell? ⟨F, 3, none⟩ = some (.int .i64 c0) ∧ w'.cell? ⟨F, 4, none⟩ = some (.int .i64 pre0))
              (first | exact keep0 | exact keep hbF | exact keep hbR | exact keep hbS)
              (first
                | (go_at_call 7; (first | ((with_reducible refine (same_any a1 a2 c1 c2 LL LL.length rfl (by omega) w5 (L1.below b2) L2).mono ?_); rintro e w6 ⟨rfl, b3⟩; have hbS := hbR.trans (b3.mono hbR.size)) | ((with_reducible refine (same_any a1 a2 c1 c2 LL LL.length rfl (by omega) w4 L1 (L2.below b1)).mono ?_); rintro e w6 ⟨rfl, b3⟩; have hbS := hbF.trans (b3.mono hbF.size))))
                | (go_at_call 8; (first | ((with_reducible refine (unhide HFm w5 hbR).mono ?_); rintro e w4 ⟨a1, l1, c1, rfl, rfl, L1, b1⟩; have hbF := hbR.trans (b1.mono hbR.size)) | ((with_reducible refine (unhide HFm _ hbd).mono ?_); rintro e w4 ⟨a1, l1, c1, rfl, rfl, L1, b1⟩; have hbF := hbd.trans (b1.mono hbd.size))))
                | (go_at_call 9; (first | ((with_reducible refine (unhide HRm w4 hbF).mono ?_); rintro e w5 ⟨a2, l2, c2, rfl, rfl, L2, b2⟩; have hbR := hbF.trans (b2.mono hbF.size)) | ((with_reducible refine (unhide HRm _ hbd).mono ?_); rintro e w5 ⟨a2, l2, c2, rfl, rfl, L2, b2⟩; have hbR := hbd.trans (b2.mono hbd.size)))))
            all_goals (
              go_wp2_with fail
              go_meet
              exact ⟨rfl, hbS⟩)
          case rest =>
            obtain ⟨rfl, HBa⟩ := hcut
            obtain ⟨wx1, rfl⟩ : ∃ x, x = wc := ⟨_, rfl⟩
            go_upto_region 11 with fail
            go_cut [12] (fun x wx => x = .bool true ∧ Hid (Below wr.heap.size wr wx))
            case first =>
              have HFm : Hid (∀ w', Below wr.heap.size wr w' → Calls Tryz.prog 8 #[.agg #[.int .i64 (n : Int), .int .i64 (p : Int), .int .i64 (B : Int), .int .i64 (C : Int), .int .i64 r], .slice a m cap] w' (Told (frameR (n : Int) (p : Int) (B : Int) (C : Int) r ys) w')) := fun w' hb => frame_any (n : Int) (p : Int) (B : Int) (C : Int) r _ _ _ ys w' ((unhide HYr).below hb) (unhide HYL) (by omega) ((unhide HQr).below hb)
              have HRm : Hid (∀ w', Below wr.heap.size wr w' → Calls Tryz.prog 9 #[.agg #[.int .i64 (n : Int), .int .i64 (p : Int), .int .i64 (B : Int), .int .i64 (C : Int), .int .i64 r], .slice a m cap] w' (Told (frameR (n : Int) (p : Int) (B : Int) (C : Int) r ys) w')) := fun w' hb => rframe_any (n : Int) (p : Int) (B : Int) (C : Int) r _ _ _ ys w' ((unhide HYr).below hb) (unhide HYL) (by omega)
              have keep : ∀ {w' : World}, Below wr.heap.size wr w' → w'.cell? ⟨G, 0, none⟩ = some (.int .i64 (n : Int)) ∧ w'.cell? ⟨G, 1, none⟩ = some (.int .i64 (p : Int)) ∧ w'.cell? ⟨G, 2, none⟩ = some (.int .i64 (B : Int)) ∧ w'.cell? ⟨G, 3, none⟩ = some (.int .i64 (C : Int)) ∧ w'.cell? ⟨G, 4, none⟩ = some (.int .i64 r) := fun hb => by
                have h := (unhide HGr).below hb
                exact ⟨h.cell 0 _ rfl, h.cell 1 _ rfl, h.cell 2 _ rfl, h.cell 3 _ rfl, h.cell 4 _ rfl⟩
              have keep0 := keep (unhide HBa)
              have hbd : Below wr.heap.size wr wx1.drew := (unhide HBa).drew
              have hle := frameR_le (n : Int) (p : Int) (B : Int) (C : Int) r ys
              obtain ⟨LL, hLL⟩ : ∃ LL, frameR (n : Int) (p : Int) (B : Int) (C : Int) r ys = LL := ⟨_, rfl⟩
              rw [hLL] at HFm HRm hle
              clear hLL
              go_wp2_with fail
              go_region_held3 (fun w' => w'.cell? ⟨G, 0, none⟩ = some (.int .i64 (n : Int)) ∧ w'.cell? ⟨G, 1, none⟩ = some (.int .i64 (p : Int)) ∧ w'.cell? ⟨G, 2, none⟩ = some (.int .i64 (B : Int)) ∧ w'.cell? ⟨G, 3, none⟩ = some (.int .i64 (C : Int)) ∧ w'.cell? ⟨G, 4, none⟩ = some (.int .i64 r))
                (first | exact keep0 | exact keep hbF | exact keep hbR | exact keep hbS)
                (first
                  | (go_at_call 7; (first | ((with_reducible refine (same_any a1 a2 c1 c2 LL LL.length rfl (by omega) w5 (L1.below b2) L2).mono ?_); rintro e w6 ⟨rfl, b3⟩; have hbS := hbR.trans (b3.mono hbR.size)) | ((with_reducible refine (same_any a1 a2 c1 c2 LL LL.length rfl (by omega) w4 L1 (L2.below b1)).mono ?_); rintro e w6 ⟨rfl, b3⟩; have hbS := hbF.trans (b3.mono hbF.size))))
                  | (go_at_call 8; (first | ((with_reducible refine (unhide HFm w5 hbR).mono ?_); rintro e w4 ⟨a1, l1, c1, rfl, rfl, L1, b1⟩; have hbF := hbR.trans (b1.mono hbR.size)) | ((with_reducible refine (unhide HFm _ hbd).mono ?_); rintro e w4 ⟨a1, l1, c1, rfl, rfl, L1, b1⟩; have hbF := hbd.trans (b1.mono hbd.size))))
                  | (go_at_call 9; (first | ((with_reducible refine (unhide HRm w4 hbF).mono ?_); rintro e w5 ⟨a2, l2, c2, rfl, rfl, L2, b2⟩; have hbR := hbF.trans (b2.mono hbF.size)) | ((with_reducible refine (unhide HRm _ hbd).mono ?_); rintro e w5 ⟨a2, l2, c2, rfl, rfl, L2, b2⟩; have hbR := hbd.trans (b2.mono hbd.size)))))
              all_goals (
                go_wp2_with fail
                go_meet
                exact ⟨rfl, hbS⟩)
            case rest =>
              obtain ⟨rfl, HBb⟩ := hcut
              obtain ⟨wx2, rfl⟩ : ∃ x, x = wc := ⟨_, rfl⟩
              go_upto_region 12 with fail
              go_cut [13] (fun x wx => x = .bool true ∧ Hid (Below wr.heap.size wr wx))
              case first =>
                have HFm : Hid (∀ w', Below wr.heap.size wr w' → Calls Tryz.prog 8 #[.agg #[.int .i64 (n : Int), .int .i64 (p : Int), .int .i64 (B : Int), .int .i64 (C : Int), .int .i64 r], .slice (some ⟨W2.heap.size, 0, none⟩) n n] w' (Told (frameR (n : Int) (p : Int) (B : Int) (C : Int) r Z) w')) := fun w' hb => frame_any (n : Int) (p : Int) (B : Int) (C : Int) r _ _ _ Z w' ((unhide HLZ).below hb) (unhide HZL) (by omega) ((unhide HQr).below hb)
                have HRm : Hid (∀ w', Below wr.heap.size wr w' → Calls Tryz.prog 9 #[.agg #[.int .i64 (n : Int), .int .i64 (p : Int), .int .i64 (B : Int), .int .i64 (C : Int), .int .i64 r], .slice (some ⟨W2.heap.size, 0, none⟩) n n] w' (Told (frameR (n : Int) (p : Int) (B : Int) (C : Int) r Z) w')) := fun w' hb => rframe_any (n : Int) (p : Int) (B : Int) (C : Int) r _ _ _ Z w' ((unhide HLZ).below hb) (unhide HZL) (by omega)
                have keep : ∀ {w' : World}, Below wr.heap.size wr w' → w'.cell? ⟨G, 0, none⟩ = some (.int .i64 (n : Int)) ∧ w'.cell? ⟨G, 1, none⟩ = some (.int .i64 (p : Int)) ∧ w'.cell? ⟨G, 2, none⟩ = some (.int .i64 (B : Int)) ∧ w'.cell? ⟨G, 3, none⟩ = some (.int .i64 (C : Int)) ∧ w'.cell? ⟨G, 4, none⟩ = some (.int .i64 r) := fun hb => by
                  have h := (unhide HGr).below hb
                  exact ⟨h.cell 0 _ rfl, h.cell 1 _ rfl, h.cell 2 _ rfl, h.cell 3 _ rfl, h.cell 4 _ rfl⟩
                have keep0 := keep (unhide HBb)
                have hbd : Below wr.heap.size wr wx2.drew := (unhide HBb).drew
                have hle := frameR_le (n : Int) (p : Int) (B : Int) (C : Int) r Z
                obtain ⟨LL, hLL⟩ : ∃ LL, frameR (n : Int) (p : Int) (B : Int) (C : Int) r Z = LL := ⟨_, rfl⟩
                rw [hLL] at HFm HRm hle
                clear hLL
                go_wp2_with fail
                go_region_held3 (fun w' => w'.cell? ⟨G, 0, none⟩ = some (.int .i64 (n : Int)) ∧ w'.cell? ⟨G, 1, none⟩ = some (.int .i64 (p : Int)) ∧ w'.cell? ⟨G, 2, none⟩ = some (.int .i64 (B : Int)) ∧ w'.cell? ⟨G, 3, none⟩ = some (.int .i64 (C : Int)) ∧ w'.cell? ⟨G, 4, none⟩ = some (.int .i64 r))
                  (first | exact keep0 | exact keep hbF | exact keep hbR | exact keep hbS)
                  (first
                    | (go_at_call 7; (first | ((with_reducible refine (same_any a1 a2 c1 c2 LL LL.length rfl (by omega) w5 (L1.below b2) L2).mono ?_); rintro e w6 ⟨rfl, b3⟩; have hbS := hbR.trans (b3.mono hbR.size)) | ((with_reducible refine (same_any a1 a2 c1 c2 LL LL.length rfl (by omega) w4 L1 (L2.below b1)).mono ?_); rintro e w6 ⟨rfl, b3⟩; have hbS := hbF.trans (b3.mono hbF.size))))
                    | (go_at_call 8; (first | ((with_reducible refine (unhide HFm w5 hbR).mono ?_); rintro e w4 ⟨a1, l1, c1, rfl, rfl, L1, b1⟩; have hbF := hbR.trans (b1.mono hbR.size)) | ((with_reducible refine (unhide HFm _ hbd).mono ?_); rintro e w4 ⟨a1, l1, c1, rfl, rfl, L1, b1⟩; have hbF := hbd.trans (b1.mono hbd.size))))
                    | (go_at_call 9; (first | ((with_reducible refine (unhide HRm w4 hbF).mono ?_); rintro e w5 ⟨a2, l2, c2, rfl, rfl, L2, b2⟩; have hbR := hbF.trans (b2.mono hbF.size)) | ((with_reducible refine (unhide HRm _ hbd).mono ?_); rintro e w5 ⟨a2, l2, c2, rfl, rfl, L2, b2⟩; have hbR := hbd.trans (b2.mono hbd.size)))))
                all_goals (
                  go_wp2_with fail
                  go_meet
                  exact ⟨rfl, hbS⟩)
              case rest =>
                obtain ⟨rfl, HBc⟩ := hcut
                obtain ⟨wx3, rfl⟩ : ∃ x, x = wc := ⟨_, rfl⟩
                obtain ⟨d, hd⟩ : ∃ d, decide (rightF s0 hop0 b0 c0 pre0) = d := ⟨_, rfl⟩
                have HD := hide hd
                clear hd
                have hF := (unhide HFr).below (unhide HBc)
                have f0 := hF.cell 0 _ rfl
                have f1 := hF.cell 1 _ rfl
                have f2 := hF.cell 2 _ rfl
                have f3 := hF.cell 3 _ rfl
                have f4 := hF.cell 4 _ rfl
                clear hF
                go_wp2_with fail
                refine (rright_any s0 hop0 b0 c0 pre0 wx3).mono ?_
                rintro e wx4 ⟨rfl, hb4⟩
                rw [unhide HD]
                have HBd := hide ((unhide HBc).trans (hb4.mono (unhide HBc).size))
                clear hb4 f0 f1 f2 f3 f4
                have keep : ∀ {w' : World}, Below wr.heap.size wr w' → w'.cell? ⟨F, 0, none⟩ = some (.int .i64 s0) ∧ w'.cell? ⟨F, 1, none⟩ = some (.int .i64 hop0) ∧ w'.cell? ⟨F, 2, none⟩ = some (.int .i64 b0) ∧ w'.cell? ⟨F, 3, none⟩ = some (.int .i64 c0) ∧ w'.cell? ⟨F, 4, none⟩ = some (.int .i64 pre0) ∧ w'.cell? ⟨G, 0, none⟩ = some (.int .i64 (n : Int)) ∧ w'.cell? ⟨G, 1, none⟩ = some (.int .i64 (p : Int)) ∧ w'.cell? ⟨G, 2, none⟩ = some (.int .i64 (B : Int)) ∧ w'.cell? ⟨G, 3, none⟩ = some (.int .i64 (C : Int)) ∧ w'.cell? ⟨G, 4, none⟩ = some (.int .i64 r) := fun hb => by
                  have h := (unhide HFr).below hb
                  have h' := (unhide HGr).below hb
                  exact ⟨h.cell 0 _ rfl, h.cell 1 _ rfl, h.cell 2 _ rfl, h.cell 3 _ rfl, h.cell 4 _ rfl, h'.cell 0 _ rfl, h'.cell 1 _ rfl, h'.cell 2 _ rfl, h'.cell 3 _ rfl, h'.cell 4 _ rfl⟩
                have keep0 := keep (unhide HBd)
                have hbd : Below wr.heap.size wr wx4.drew := (unhide HBd).drew
                obtain ⟨hh', hm', hh2⟩ := spc_half (unhide HS)
                have HFm : Hid (∀ w', Below wr.heap.size wr w' → Calls Tryz.prog 8 #[.agg #[.int .i64 (n : Int), .int .i64 (p : Int), .int .i64 (B : Int), .int .i64 (C : Int), .int .i64 r], .slice (some ⟨W2.heap.size, 0, none⟩) n n] w' (Told (frameI n B C Z) w')) := fun w' hb => frame_yes hh' B C (p : Int) r _ n n Z w' ((unhide HLZ).below hb) (unhide HZL) (by omega) ((unhide HQr).below hb) (unhide HS).right hh2 hm' (unhide HAZ)
                have HR1 : Hid (∀ w', Below wr.heap.size wr w' → Calls Tryz.prog 11 #[.agg #[.int .i64 s0, .int .i64 hop0, .int .i64 b0, .int .i64 c0, .int .i64 pre0]] w' fun e w'' => e = .returned (.bool d) ∧ Below w'.heap.size w' w'') := fun w' hb => by rw [← unhide HD]; exact fright_any s0 hop0 b0 c0 pre0 w'
                have HR2 : Hid (∀ w', Below wr.heap.size wr w' → Calls Tryz.prog 11 #[.agg #[.int .i64 (n : Int), .int .i64 (p : Int), .int .i64 (B : Int), .int .i64 (C : Int), .int .i64 r]] w' fun e w'' => e = .returned (.bool true) ∧ Below w'.heap.size w' w'') := fun w' hb => by
                  have := fright_any (n : Int) (p : Int) (B : Int) (C : Int) r w'
                  rwa [decide_eq_true (unhide HS).right] at this
                have hdd : (d == d) = true := by simp
                have hcc : ((C : Int) == (C : Int)) = true := by simp
                clear hm' hh2
                go_wp2_with fail
                go_region_held3 (fun w' => w'.cell? ⟨F, 0, none⟩ = some (.int .i64 s0) ∧ w'.cell? ⟨F, 1, none⟩ = some (.int .i64 hop0) ∧ w'.cell? ⟨F, 2, none⟩ = some (.int .i64 b0) ∧ w'.cell? ⟨F, 3, none⟩ = some (.int .i64 c0) ∧ w'.cell? ⟨F, 4, none⟩ = some (.int .i64 pre0) ∧ w'.cell? ⟨G, 0, none⟩ = some (.int .i64 (n : Int)) ∧ w'.cell? ⟨G, 1, none⟩ = some (.int .i64 (p : Int)) ∧ w'.cell? ⟨G, 2, none⟩ = some (.int .i64 (B : Int)) ∧ w'.cell? ⟨G, 3, none⟩ = some (.int .i64 (C : Int)) ∧ w'.cell? ⟨G, 4, none⟩ = some (.int .i64 r))
                  (first | exact keep0 | exact keep hbF | exact keep hbG | exact keep hbH)
                  (first
                    | (go_at_call 11; (first | ((with_reducible refine (unhide HR2 w6 hbG).mono ?_); rintro e w7 ⟨rfl, b7⟩; have hbH := hbG.trans (b7.mono hbG.size)) | ((with_reducible refine (unhide HR1 w5 hbF).mono ?_); rintro e w6 ⟨rfl, b6⟩; have hbG := hbF.trans (b6.mono hbF.size))))
                    | (go_at_call 8; ((with_reducible refine (unhide HFm _ hbd).mono ?_); rintro e w5 ⟨a1, l1, c1, rfl, e1, L1, b1⟩; obtain rfl : C = l1 := (frame_len n B C Z).symm.trans e1; have hbF := hbd.trans (b1.mono hbd.size))))
                have HBe := hide hbH
                clear hbH hbG hbF hbd keep0
                go_wp2
                go_ret
                exact ⟨rfl, (unhide HBW).trans ((unhide HBe).mono (unhide HBW).size)⟩)
end Go.Proofs.YtbkdgpeooeokmaaGreatDoor
