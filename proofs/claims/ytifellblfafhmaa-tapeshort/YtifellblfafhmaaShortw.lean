/- The walk of TapeShort. -/
import Derived.Test.YtifellblfafhmaaShort
namespace Go.Proofs.Ytifellblfafhmaa
open Go.RowKit
set_option linter.unusedVariables false

theorem mod_eq (k N : Int) (h : In64 k) (h1 : 0 < N) (h2 : N ≤ 1000000) : (wrap64 (k.tmod N + N)).tmod N = k % N := by
  obtain ⟨h0, h1'⟩ := h
  unfold wrap64
  rcases Int.le_total 0 k with h | h
  · have e1 : k.tmod N = k % N := Int.tmod_eq_emod_of_nonneg h
    have b1 := Int.emod_nonneg k (show N ≠ 0 by omega)
    have b2 := Int.emod_lt_of_pos k h1
    rw [e1, show (k % N + N + 9223372036854775808) % 18446744073709551616 - 9223372036854775808 = k % N + N by omega, Int.tmod_eq_emod_of_nonneg (by omega), Int.add_emod_right, Int.emod_emod]
  · have e1 : k.tmod N = -((-k) % N) := by
      have := Int.neg_tmod (-k) N
      rw [Int.neg_neg] at this
      rw [this, Int.tmod_eq_emod_of_nonneg (by omega)]
    have b1 := Int.emod_nonneg (-k) (show N ≠ 0 by omega)
    have b2 := Int.emod_lt_of_pos (-k) h1
    rw [e1, show (-(-k % N) + N + 9223372036854775808) % 18446744073709551616 - 9223372036854775808 = -(-k % N) + N by omega, Int.tmod_eq_emod_of_nonneg (by omega), Int.add_emod_right]
    have := Int.emod_add_mul_ediv (-k) N
    rw [show -(-k % N) = k + N * (-k / N) by omega, Int.add_mul_emod_self_left]

theorem row_none (u : ByteArray) (a : Nat) : rowXs u a 11 = [] ∧ (rowR u a 11).2.1 = a ∧ (rowR u a 11).2.2 = 11 := by
  obtain ⟨T1, T2, T3⟩ := take_no (at_ := a) (s := u) (e := 11) (k := 2) (by decide)
  have h : rowR u a 11 = ([], a, 11) := by unfold rowR; rw [T1, T2, T3]; rfl
  unfold rowXs
  rw [h]
  simp

set_option maxRecDepth 100000 in
set_option maxHeartbeats 1000000 in
theorem short_walk (a : Option Addr) (len cap n : Nat) (xs : List Int) (cut : Int) (w : World) (hcut : In64 cut) (hn : xs.length = n) (h15 : n ≤ 15) (hnc : n ≤ cap) (hcap : cap ≤ 9223372036854775807) (hl : Lies w a xs) (hsm : Small xs) (hlen : (len = n) ∨ (n = 15 ∧ 15 < len ∧ len ≤ cap ∧ ∃ x, a = some x)) :
    Calls Try.prog 6 #[.slice a len cap, .int .i64 cut] w fun e w' => e = .returned (.bool true) ∧ Below w.heap.size w w' := by
  have HL := hide hl
  have HS := hide hsm
  have HN := hide hn
  have HC := hide hcut
  clear hl hsm hn hcut
  rcases hlen with rfl | ⟨rfl, hlen, hlc, x, rfl⟩
  all_goals
    go_enter Try.func6, Try.ntmps6
    go_wp2_with fail
    refine (awake_any _).mono ?_
    rintro e w1 ⟨rfl, hb1⟩
    have HB1 := hide hb1
    have HS1 := hide hb1.size
    have HNE := hide ((unhide HL).ne hb1.size)
    clear hb1
    go_wp2
    generalize decide (15 < (len : Int)) = dd
    go_loopw [7] (fun i wr => ∃ (j : Nat), j ≤ xs.length ∧ i = .int .i64 (j : Int) ∧ Hid (Wr w1.heap.size wr ((xs.take j).flatMap wordL)) ∧ Hid (Below w.heap.size w wr)) (fun i _ => xs.length - (intOf i).toNat)
    case atStart => exact ⟨0, by omega, rfl, wr_new w1 30, (unhide HB1).alloc (unhide HS1) _⟩
    case round =>
      obtain ⟨j, hj, rfl, HW, HB⟩ := hrel
      by_cases hlt : j < xs.length
      · have hl1 := (unhide HL).below (unhide HB)
        obtain ⟨b, off, ha, hb, hc⟩ := hl1.some (by intro e; rw [e] at hlt; simp at hlt)
        cases ha
        have hck := hc j hlt
        have HSucc := hide (words_succ xs j hlt)
        generalize xs.getD j 0 = z at hck HSucc
        have hlt' := hlt
        rw [unhide HN] at hlt'
        clear hc hl1 hb
        go_wp2_with fail
        refine (wword_any w1.heap.size z _ _ (unhide HW) (by rw [words_len, List.length_take]; omega)).mono ?_
        rintro e w2 ⟨rfl, ho2, hw2⟩
        have HB2 := hide ((unhide HB).trans (ho2.below (B := w.heap.size) (unhide HS1) (unhide HB).size))
        have HW2 : Hid (Wr w1.heap.size w2 ((xs.take (j + 1)).flatMap wordL)) := by
          show Wr _ _ _
          rw [unhide HSucc]
          exact hw2
        clear ho2 hw2 HB HW
        go_wp2
        go_roundw
        case rel => exact ⟨j + 1, by omega, rfl, HW2, HB2⟩
        case measure => simp [intOf]; omega
      · have HJ := hide (show j = xs.length by omega)
        have hlt' := hlt
        rw [unhide HN] at hlt'
        clear hlt
        go_wp2_with fail
        obtain ⟨t, ht⟩ : ∃ t, (⟨((xs.take j).flatMap wordL).toArray⟩ : ByteArray) = t := ⟨_, rfl⟩
        have HT : Hid (B t = xs.flatMap wordL) := by
          show B t = _
          rw [← ht, unhide HJ, List.take_length]
          rfl
        have HTT := hide ht
        have hts : t.size = 4 * xs.length := by rw [← B_len, unhide HT, words_len]
        clear ht
        refine (wtext_any w1.heap.size _ _ (unhide HW) (by rw [words_len, List.length_take]; have := unhide HN; omega)).mono ?_
        rw [unhide HTT]
        rintro e w2 ⟨rfl, hb2⟩
        have HB2 := hide (below_trans (unhide HB) hb2)
        clear hb2 HW HB HTT hj hlt'
        obtain ⟨M, hM⟩ : ∃ M, t.size = M := ⟨_, rfl⟩
        have HM : Hid (M = 4 * xs.length) := by show M = _; rw [← hM, hts]
        have hM60 : M ≤ 60 := by have := unhide HN; omega
        clear hts
        by_cases h0 : M = 0
        · subst h0
          go_wp2_with fail
          refine (read_any _ _).mono ?_
          rintro e w3 ⟨rfl, rfl⟩
          go_wp2_with fail
          refine (rerr_any w2.heap.size 0 ⟨#[]⟩ 0 _ (rd_new w2 _)).mono ?_
          rintro e w3 ⟨rfl, rfl⟩
          go_wp2_with fail
          refine (read_any _ _).mono ?_
          rintro e w4 ⟨rfl, rfl⟩
          go_wp2_with fail
          have hd2 := rd_new (w2.alloc (.cells #[.int .i64 0, .string ⟨#[]⟩, .int .i64 0] 65)) ⟨#[]⟩
          rw [World.size_alloc] at hd2
          obtain ⟨T1, T2, T3⟩ := take_short (at_ := 0) (s := ⟨#[]⟩) (k := 4) (by decide)
          refine (rword_any _ 0 ⟨#[]⟩ 0 _ hd2 (Nat.zero_le _) (by simp [ByteArray.size])).mono ?_
          rw [T1]
          rintro e w5 ⟨rfl, ho5, hr5⟩
          rw [← World.size_alloc w2 (.cells #[.int .i64 0, .string ⟨#[]⟩, .int .i64 0] 65)] at ho5
          have HB5 := hide (((unhide HB2).alloc (unhide HB2).size (.cells #[.int .i64 0, .string ⟨#[]⟩, .int .i64 0] 65)).trans (ho5.fresh.mono (by have := (unhide HB2).size; simp; omega)))
          clear ho5 hr5 hd2 T1 T2 T3
          have hz : wordI 0 = 0 := by unfold wordI wrap32; omega
          go_wp2
          go_ret
          exact ⟨rfl, unhide HB5⟩
        · have hM0 : 0 < M := by omega
          obtain ⟨i, hi, hiM⟩ := mod_at cut M (by omega) (by omega)
          obtain ⟨m, hm⟩ : ∃ m, m = M - (1 + i) := ⟨_, rfl⟩
          have hm1 : (M : Int) - (1 + (i : Int)) = (m : Int) := by omega
          have HMm := hide hm
          have hmM : m < M := by omega
          obtain ⟨Wh, hWh⟩ : ∃ Wh, Wh = m / 4 := ⟨_, rfl⟩
          have hWi : (m : Int) / 4 = (Wh : Int) := by omega
          have hW15 : Wh < 15 := by omega
          have HWh := hide hWh
          clear hm hWh
          go_wp2_with fail
          obtain ⟨u, hu⟩ : ∃ u, t.extract 0 m = u := ⟨_, rfl⟩
          have HU : Hid (B u = (xs.flatMap wordL).take m) := by show B u = _; rw [← hu, B_extract, unhide HT]; simp
          have hus : u.size = m := by rw [← B_len, unhide HU, List.length_take, words_len]; have := unhide HM; omega
          have HUS := hide hus
          rw [hu]
          clear hu hus
          refine (read_any _ _).mono ?_
          rintro e w3 ⟨rfl, rfl⟩
          go_wp2
          have hs2 := unhide HB2 |>.size
          go_loopw [12] (fun i wr => ∃ (q : Nat), q ≤ xs.length ∧ i = .int .i64 (q : Int) ∧ Hid (Below w.heap.size w wr) ∧ Hid (Rd w2.heap.size wr (atS Wh q) u (errS Wh q))) (fun i _ => xs.length - (intOf i).toNat)
          case atStart => exact ⟨0, by omega, rfl, (unhide HB2).alloc (unhide HB2).size _, by
            have := rd_new w2 u
            show Rd _ _ _ _ _
            unfold atS errS
            simpa using this⟩
          case round =>
            obtain ⟨q, hq, rfl, HBr, HRr⟩ := hrel
            by_cases hlt : q < xs.length
            · have hlt' := hlt
              rw [unhide HN] at hlt'
              obtain ⟨S1, S2, S3⟩ := short_step xs u m Wh q (unhide HU) (unhide HUS) (unhide HWh) hlt (by have := unhide HM; omega)
              have hat : atS Wh q ≤ u.size := by
                have := unhide HUS
                have := unhide HWh
                unfold atS
                omega
              go_wp2_with fail
              refine (rword_any w2.heap.size (atS Wh q) u (errS Wh q) _ (unhide HRr) hat (by have := unhide HUS; omega)).mono ?_
              rw [S1, S2, S3]
              rintro e w4 ⟨rfl, ho4, hr4⟩
              have HB4 := hide ((unhide HBr).trans (ho4.below (B := w.heap.size) hs2 (unhide HBr).size))
              have HR4 := hide hr4
              clear ho4 hr4 S1 S2 S3 HBr HRr hat
              by_cases hqw : q < Wh
              · rw [if_pos hqw]
                have hl4 := (unhide HL).below (unhide HB4)
                obtain ⟨b, off, ha, hb, hc⟩ := hl4.some (by intro e; rw [e] at hlt; simp at hlt)
                cases ha
                have hck := hc q hlt
                generalize xs.getD q 0 = z at hck ⊢
                have he : errS Wh (q + 1) = 0 := by unfold errS; rw [if_pos (by omega)]
                rw [he] at HR4
                have hz64 : wrap64 (wrap32 z) = wrap32 z := by unfold wrap64 wrap32; omega
                clear hc hb hl4 he
                go_wp2_with fail
                refine (rerr_any w2.heap.size _ u 0 _ (unhide HR4)).mono ?_
                rintro e w5 ⟨rfl, rfl⟩
                go_wp2
                go_roundw
                case rel => exact ⟨q + 1, by omega, rfl, HB4, by
                  show Rd _ _ _ _ _
                  rw [show errS Wh (q + 1) = 0 by unfold errS; rw [if_pos (by omega)]]
                  exact unhide HR4⟩
                case measure => simp [intOf]; omega
              · rw [if_neg hqw]
                have he : errS Wh (q + 1) = 11 := by unfold errS; rw [if_neg (by omega)]
                have ha : atS Wh (q + 1) = 4 * Wh := by unfold atS; omega
                rw [he, ha] at HR4
                clear he ha
                go_wp2_with fail
                refine (rerr_any w2.heap.size _ u 11 _ (unhide HR4)).mono ?_
                rintro e w5 ⟨rfl, rfl⟩
                go_wp2_with fail
                refine (rat_any w2.heap.size _ u 11 _ (unhide HR4)).mono ?_
                rintro e w6 ⟨rfl, rfl⟩
                go_wp2
                go_roundw
                case rel => exact ⟨q + 1, by omega, rfl, HB4, by
                  show Rd _ _ _ _ _
                  rw [show errS Wh (q + 1) = 11 by unfold errS; rw [if_neg (by omega)], show atS Wh (q + 1) = 4 * Wh by unfold atS; omega]
                  exact unhide HR4⟩
                case measure => simp [intOf]; omega
            · have HQ := hide (show q = xs.length by omega)
              have hlt' := hlt
              rw [unhide HN] at hlt'
              have HR5 : Hid (Rd w2.heap.size wr (4 * Wh) u 11) := by
                show Rd _ _ _ _ _
                have h1 := unhide HRr
                have h2 := unhide HWh
                have h3 := unhide HM
                rw [unhide HQ] at h1
                rw [show errS Wh xs.length = 11 by unfold errS; rw [if_neg (by omega)], show atS Wh xs.length = 4 * Wh by unfold atS; omega] at h1
                exact h1
              have hat : 4 * Wh ≤ u.size := by
                have := unhide HUS
                have := unhide HWh
                omega
              have hu60 : u.size ≤ 1000000000 := by have := unhide HUS; omega
              clear hlt HRr
              obtain ⟨T1, T2, T3⟩ := take_no (at_ := 4 * Wh) (s := u) (e := 11) (k := 1) (by decide)
              obtain ⟨P1, P2, P3⟩ := take_no (at_ := 4 * Wh) (s := u) (e := 11) (k := 8) (by decide)
              have HX : Hid (rowXs u (4 * Wh) 11 = [] ∧ (rowR u (4 * Wh) 11).2.1 = 4 * Wh ∧ (rowR u (4 * Wh) 11).2.2 = 11) := row_none u (4 * Wh)
              have HT1 := hide (And.intro T1 (And.intro T2 T3))
              have HP1 := hide (And.intro P1 (And.intro P2 P3))
              clear T1 T2 T3 P1 P2 P3
              go_wp2_with fail
              refine (rbyte_any w2.heap.size (4 * Wh) u 11 _ (unhide HR5) hat hu60).mono ?_
              rw [(unhide HT1).1, (unhide HT1).2.1, (unhide HT1).2.2]
              rintro e w5 ⟨rfl, ho5, hr5⟩
              have HB5 := hide ((unhide HBr).trans (ho5.below (B := w.heap.size) hs2 (unhide HBr).size))
              have HR6 := hide hr5
              clear ho5 hr5 HR5 HBr
              go_wp2_with fail
              refine (rlong_any w2.heap.size (4 * Wh) u 11 _ (unhide HR6) hat hu60).mono ?_
              rw [(unhide HP1).1, (unhide HP1).2.1, (unhide HP1).2.2]
              rintro e w6 ⟨rfl, ho6, hr6⟩
              have HB6 := hide ((unhide HB5).trans (ho6.below (B := w.heap.size) hs2 (unhide HB5).size))
              have HR7 := hide hr6
              clear ho6 hr6 HR6 HB5
              go_wp2_with fail
              refine (rrow_any w2.heap.size (4 * Wh) u 11 _ (unhide HR7) hat hu60).mono ?_
              rw [(unhide HX).1, (unhide HX).2.1, (unhide HX).2.2]
              rintro e w7 ⟨a7, cap7, rfl, hl7, hp7, ho7, hr7⟩
              have HB7 := hide ((unhide HB6).trans (ho7.below (B := w.heap.size) hs2 (unhide HB6).size))
              have HR8 := hide hr7
              clear ho7 hr7 HR7 HB6 hl7 hp7
              go_wp2_with fail
              refine (rat_any w2.heap.size _ u 11 _ (unhide HR8)).mono ?_
              rintro e w8 ⟨rfl, rfl⟩
              go_wp2_with fail
              refine (rleft_any w2.heap.size _ u 11 _ (unhide HR8) hat hu60).mono ?_
              rw [unhide HUS]
              rintro e w9 ⟨rfl, nn, rfl⟩
              go_wp2_with fail
              refine (rerr_any w2.heap.size _ u 11 _ ((unhide HR8).below (below_drewN _ _))).mono ?_
              rintro e w10 ⟨rfl, rfl⟩
              go_wp2
              go_ret
              exact ⟨rfl, below_trans (unhide HB7) (below_drewN _ _)⟩
theorem short_came (a : Option Addr) (len cap : Nat) (zs : List Int) (cut : Int) (w : World) (h : IsRow .i64 w a len cap zs) (hc : In64 cut) :
    Calls Try.prog 6 #[.slice a len cap, .int .i64 cut] w fun e w' => e = .returned (.bool true) ∧ Below w.heap.size w w' := by
  obtain ⟨xs, n, h1, h2, h3, h4, h5, h6, h7⟩ := cut15_came a len cap zs w h
  exact short_walk a len cap n xs cut w hc h1 h2 h3 h4 h5 h6 h7
end Go.Proofs.Ytifellblfafhmaa
