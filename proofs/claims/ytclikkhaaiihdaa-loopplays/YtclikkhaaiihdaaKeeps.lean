/- The walk of LoopKeeps. -/
import Derived.Test.YtclikkhaaiihdaaMath
namespace Go.Proofs.Ytclikkhaaiihdaa
open Go.RowKit
set_option linter.unusedVariables false

theorem and_7 (n : Int) : bits .and .i64 n 7 = n % 8 := i64_mask n 7 3 (by decide) (by decide)

theorem mod_five (x : Int) : ∃ d : Nat, (wrap64 (x.tmod 5 + 5)).tmod 5 = (d : Int) - 1 ∧ 1 ≤ d ∧ d ≤ 5 := by
  obtain ⟨p, hp, hp2⟩ := mod_at x 5 (by decide) (by decide)
  have hp' : (wrap64 (x.tmod 5 + 5)).tmod 5 = (p : Int) := hp
  exact ⟨p + 1, by rw [hp']; omega, by omega, by omega⟩
theorem mod_forty1 (x : Int) : ∃ n : Nat, (wrap64 (x.tmod 41 + 41)).tmod 41 = (n : Int) ∧ n ≤ 40 := by
  obtain ⟨p, hp, hp2⟩ := mod_at x 41 (by decide) (by decide)
  exact ⟨p, hp, by omega⟩
theorem and_eight (x : Int) : ∃ R : Nat, bits .and .i64 x 7 = (R : Int) - 1 ∧ 1 ≤ R ∧ R ≤ 8 := by
  refine ⟨(x % 8).toNat + 1, by rw [and_7]; omega, by omega, by omega⟩
theorem prod_bd (d R : Nat) (hd : d ≤ 5) (hR : R ≤ 8) (hR1 : 1 ≤ R) : ∃ P : Nat, P = d * R ∧ (d : Int) * (R : Int) = (P : Int) ∧ P ≤ 40 ∧ d ≤ P :=
  ⟨d * R, rfl, by simp, Nat.mul_le_mul hd hR, Nat.le_mul_of_pos_right d (by omega)⟩
set_option maxRecDepth 100000 in
set_option maxHeartbeats 8000000 in
theorem keeps_any (width room many : Int) (w : World) : Calls Try.prog 4 #[.int .i64 width, .int .i64 room, .int .i64 many] w fun r w' => r = .returned (.bool true) ∧ Below w.heap.size w w' := by
  obtain ⟨i0, hi, hz0, hz1, hz2⟩ := info_parts Try.info3
  have HI : Hid (Try.prog.info? 3 = some i0 ∧ i0.zero = some (.int .i64 0) ∧ i0.size = 1 ∧ i0.bytes = 8) := ⟨hi, hz0, hz1, hz2⟩
  clear hi hz0 hz1 hz2
  obtain ⟨d, hd0, hd1, hd2⟩ := mod_five width
  obtain ⟨nn, hn, hn2⟩ := mod_forty1 many
  obtain ⟨R, hR0, hR1, hR2⟩ := and_eight room
  have h1d : (1 : Int) + ((d : Int) - 1) = (d : Int) := by omega
  have h1R : (1 : Int) + ((R : Int) - 1) = (R : Int) := by omega
  obtain ⟨P, hP0, hP, hP2, hP3⟩ := prod_bd d R hd2 hR2 hR1
  obtain ⟨M, hM⟩ : ∃ M : Nat, (P : Int) + (d : Int) - 1 = (M : Int) := ⟨P + d - 1, by omega⟩
  have hMb : M ≤ 44 := by omega
  have HR : Hid (roomN M (d : Int) = R ∧ R * d ≤ M) := by
    show _ ∧ _
    unfold roomN
    rw [if_neg (by omega), Int.toNat_natCast]
    have : M = R * d + (d - 1) := by rw [Nat.mul_comm R d]; omega
    rw [this]
    exact ⟨by rw [Nat.add_comm, Nat.add_mul_div_right _ _ (by omega), Nat.div_eq_of_lt (by omega), Nat.zero_add], by omega⟩
  have HP0 := hide hP0
  clear hP0
  go_enter Try.func4, Try.ntmps4
  go_wp2_with fail
  refine (wake_any _).mono ?_
  rintro e' w1 ⟨rfl, hb⟩
  have HB := hide hb
  clear hb
  go_wp2_with fail
  refine (new_any M (by omega) _).mono ?_
  rintro e' w2 ⟨c, g, rfl, hc, hg, har, hb⟩
  have HA := hide har
  have HB2 := hide (below_trans (unhide HB) hb)
  have HCG := hide (And.intro (Nat.le_trans (unhide HB).size hc) (Nat.le_trans (unhide HB).size hg))
  clear har hb hc hg HB
  go_wp2_with fail
  refine (part_yes c g M 0 M _ 0 _ (unhide HA) (by omega) (by omega)).mono ?_
  rintro e' w3 ⟨o, rfl, hpt, hom, ho, hb⟩
  obtain rfl : o = 0 := ho (by omega)
  have HP := hide hpt
  have HA3 := hide ((unhide HA).below hb)
  have HB3 := hide (below_trans (unhide HB2) hb)
  have HG1 := hide (unhide HA).row.lt
  have HS1 := hide (unhide HB2).size
  clear hpt hom ho hb HB2 HA
  go_wp2_with fail
  refine (lnew_yes _ c g 0 M d R _ (unhide HP) (by omega) (by omega) (by omega) (unhide HR).1 (by omega)).mono ?_
  rintro e' w4 ⟨rfl, hlo, hb⟩
  have HW := hide (own_made (B := w.heap.size) (w1 := w) hlo (unhide HA3) hb (unhide HP) (by omega) (Nat.ne_of_gt (unhide HG1)) ⟨(unhide HS1), unhide HCG⟩ (unhide HB3).size)
  have HB4 := hide (below_trans (unhide HB3) hb)
  clear hlo hb HA3 HB3 HP
  generalize w3.heap.size = l at *
  generalize w2.heap.size = b at *
  have hM1 : 1 ≤ M := by omega
  clear hd0 hn hR0 h1d h1R hP hM
  go_wp2
  go_loopw [12, 13, 14] (fun iv _ _ wr => ∃ k : Nat, k ≤ nn ∧ iv = .int .i64 (k : Int) ∧ Hid (Own w.heap.size l b c g 0 M M d R (k : Int) wr (keepL M R d k)) ∧ Hid (Below w.heap.size w wr)) (fun iv _ _ _ => nn - (intOf iv).toNat)
  case atStart => exact ⟨0, by omega, rfl, HW, HB4⟩
  case round =>
    obtain ⟨k, hk, rfl, HWr, HBr⟩ := hrel
    obtain ⟨w5, hw5⟩ : ∃ w5, w5 = wr := ⟨_, rfl⟩
    subst hw5
    clear HW HB4
    by_cases hlt : k < nn
    · go_wp2
      go_loopw [14, 13] (fun jv v wr => ∃ j : Nat, j ≤ d ∧ jv = .int .i64 (j : Int) ∧ Hid (wr.ownsRow w5.heap.size 3 1 v j (ints (hundL (k : Int) j))) ∧ Hid (Below w5.heap.size w5 wr)) (fun jv _ _ => d - (intOf jv).toNat)
      case atStart => exact ⟨0, by omega, rfl, World.ownsRow_nil _ _ _ _, Below.refl _ _⟩
      case round =>
        obtain ⟨j, hj, rfl, HOwn, HBj⟩ := hrel
        by_cases hlj : j < d
        · go_wp2_with (at_builtin; refine wpList_append_own _ rfl _ _ 34 rfl w5.heap.size 3 i0 (.int .i64 0) 1 8 Try.underlying34 (unhide HI).1 (unhide HI).2.1 (unhide HI).2.2.1 (unhide HI).2.2.2 rfl (by decide) _ _ _ rfl ((unhide HOwn).alloc _) ⟨wr.heap.size, 0, none⟩ 1 1 [.int .i64 (100 * (k : Int) + (j : Int))] rfl rfl ?d1 ?d2 ?d3 ?d4 ?d5 ?_)
          case d1 => exact cell_one_new _ _ _
          case d2 => exact ints_one [100 * (k : Int) + (j : Int)]
          case d3 => unfold maxLen; omega
          case d4 => omega
          case d5 => have := (unhide HBj).size; simp; omega
          intro v6 w6 hown6 hg6 _
          have hgr : ∀ q, Value.ownBlock _ = some q → w5.heap.size ≤ q := fun q hq => ((unhide HOwn).lt q hq).1
          have HB6 := hide (((unhide HBj).alloc (unhide HBj).size _).grown hg6 (by have := (unhide HBj).size; simp; omega) hgr)
          have HOwn6 := hide (show w6.ownsRow w5.heap.size 3 1 v6 (j + 1) (ints (hundL (k : Int) (j + 1))) by rw [hund_succ, ints_snoc]; exact hown6)
          clear hown6 hg6 hgr HOwn HBj
          go_wp2
          go_roundw
          case rel => exact ⟨j + 1, by omega, by simp, HOwn6, HB6⟩
          case measure => simp [intOf]; omega
        · obtain rfl : j = d := by omega
          obtain ⟨a5, c5, rfl, hl5, hlen5⟩ := owned_lies (unhide HOwn)
          rw [hlen5] at HOwn ⊢
          have HL5 := hide hl5
          have HLn := hide hlen5
          have HAt := hide (owned_at (unhide HOwn) _ _ _ rfl)
          clear hl5 hlen5
          go_wp2_with fail
          refine (((unhide HWr).below (unhide HBj)).push (by omega) (unhide HL5) (unhide HLn) (by intro i hi; rw [hund_getD _ _ _ hi]; constructor <;> omega) (fun _ x hx => by have := unhide HAt x hx; have := (unhide HWr).ar.row.lt; omega)).mono ?_
          rintro e' w7 ⟨rfl, ho, hbt⟩
          have HW7 := hide ho
          have HB7 := hide (((below_trans (unhide HBr) (unhide HBj))).trans (hbt.lg_below (unhide HWr).ge.1 (unhide HWr).ge.2.2.2 (below_trans (unhide HBr) (unhide HBj)).size))
          clear ho hbt HOwn HL5 HLn HAt
          go_wp2_with fail
          refine (lcount_any l b c g 0 M R j _ _ (unhide HW7).lo (by omega) (by omega)).mono ?_
          rintro e' w8 ⟨rfl, rfl⟩
          go_wp2
          go_roundw
          case rel => exact ⟨k + 1, by omega, by simp, HW7, HB7⟩
          case measure => simp [intOf]; omega
    · obtain rfl : k = nn := by omega
      go_wp2
      go_loopw [15, 16, 17, 18] (fun tv _ _ _ wr => ∃ t : Int, -2 ≤ t ∧ t ≤ (k : Int) + 2 ∧ tv = .int .i64 t ∧ Hid (Own w.heap.size l b c g 0 M M d R (k : Int) wr (keepL M R d k)) ∧ Hid (Below w.heap.size w wr)) (fun tv _ _ _ _ => ((k : Int) + 2 - intOf tv).toNat)
      case atStart => exact ⟨-2, by omega, by omega, rfl, HWr, HBr⟩
      case round =>
        obtain ⟨t, ht1, ht2, rfl, HWt, HBt⟩ := hrel
        obtain ⟨w6, hw6⟩ : ∃ w6, w6 = wr := ⟨_, rfl⟩
        subst hw6
        clear HWr HBr
        by_cases hlt2 : t < (k : Int) + 2
        · go_wp2_with fail
          by_cases hh : hasI (k : Int) R t
          · obtain ⟨hh1, hh2⟩ := hh
            have hh0 := (old_bd (k : Int) R (by omega)).1
            refine (lget_yes l b c g 0 M M R d k t _ _ (unhide HWt).lo (unhide HWt).ar (unhide HWt).hm (by omega) (by omega) ⟨hh1, hh2⟩).mono ?_
            have hh4 : 0 ≤ t := by omega
            unfold oldI at hh1
            have hh3 : (k : Int) - (R : Int) ≤ t := by omega
            clear hh1 hh0
            have HK : Hid (rowL (keepL M R d k) (0 + (atI t R (d : Int)).toNat) d = hundL t d) := by
              obtain ⟨τ, rfl⟩ : ∃ τ : Nat, t = (τ : Int) := ⟨t.toNat, by omega⟩
              exact keep_row M R d hR1 (unhide HR).2 k τ (by omega) (by omega)
            rw [Int.toNat_natCast, unhide HK]
            clear HK
            rintro e' w7 ⟨q, rfl, hq, hcq, hb7⟩
            have HC := hide hcq
            have HB7 := hide (below_trans (unhide HBt) hb7)
            have HW7 := hide ((unhide HWt).below hb7)
            clear hq hcq hb7
            go_wp2
            go_loopw [18] (fun jv wr => ∃ j : Nat, j ≤ d ∧ jv = .int .i64 (j : Int) ∧ wr = w7) (fun jv _ => d - (intOf jv).toNat)
            case atStart => exact ⟨0, by omega, rfl, rfl⟩
            case round =>
              obtain ⟨j, hj, rfl, rfl⟩ := hrel
              by_cases hlj : j < d
              · have hcj := (unhide HC).cell j _ (ints_at _ j (by rw [hund_len]; exact hlj))
                rw [hund_getD _ _ _ hlj] at hcj
                go_wp2
                go_roundw
                case rel => exact ⟨j + 1, by omega, by simp, trivial⟩
                case measure => simp [intOf]; omega
              · obtain rfl : j = d := by omega
                go_wp2
                go_roundw
                case rel => exact ⟨t + 1, by omega, by omega, rfl, HW7, HB7⟩
                case measure => simp [intOf]; omega
          · refine (lget_no l b c g 0 M R d k t _ (unhide HWt).lo (by omega) (by omega) ⟨by omega, by omega⟩ hh).mono ?_
            rintro e' w7 ⟨rfl, n7, rfl⟩
            have HB7 := hide (below_trans (unhide HBt) (below_drewN _ n7))
            have HW7 := hide ((unhide HWt).below (below_drewN _ n7))
            have h3 : t < 0 ∨ (k : Int) ≤ t ∨ (0 ≤ t ∧ t < (k : Int) ∧ t < (k : Int) - (R : Int)) := by
              unfold hasI oldI at hh
              omega
            clear hh
            rcases h3 with h3 | h3 | ⟨h3, h4, h5⟩
            all_goals (
              go_wp2
              go_loopw [18] (fun jv wr => jv = .int .i64 0 ∧ wr = w6.drewN n7) (fun jv _ => 0)
              case atStart => exact ⟨rfl, rfl⟩
              case round =>
                obtain ⟨rfl, rfl⟩ := hrel
                go_wp2
                go_roundw
                case rel => exact ⟨t + 1, by omega, by omega, rfl, HW7, HB7⟩
                case measure => simp [intOf]; omega)
        · go_wp2_with fail
          refine (lroom_any l b c g 0 M R d k _ (unhide HWt).lo).mono ?_
          rintro e' w7 ⟨rfl, n7, rfl⟩
          go_wp2
          go_ret
          exact ⟨by simp, below_trans (unhide HBt) (below_drewN _ _)⟩
end Go.Proofs.Ytclikkhaaiihdaa
