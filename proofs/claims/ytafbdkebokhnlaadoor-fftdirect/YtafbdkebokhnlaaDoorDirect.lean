/- FftDirect returns true. -/
import Derived.Test.YtafbdkebokhnlaaDoorWake
import Derived.Test.YtafbdkebokhnlaaDoorRfft
namespace Go.Proofs.YtafbdkebokhnlaaDoor
open Go.RowKit
set_option linter.unusedVariables false

theorem row_all (a : Option Addr) (len cap : Nat) (zs : List Int) (w : World) (h : IsRow .i64 w a len cap zs) :
    ∃ xs : List Int, xs.length = len ∧ len ≤ 9223372036854775807 ∧ Lies w a xs ∧ Small xs := by
  rcases h with ⟨rfl, rfl, rfl, rfl⟩ | ⟨x, rfl, hl, hm, hz, hcell, hwz⟩
  · exact ⟨[], by simp, by omega, .inl rfl, by intro x hx; simp at hx⟩
  · unfold maxLen at hm
    exact ⟨zs.take len, by rw [List.length_take]; omega, by omega, lies_of_row len (by omega) hcell, small_take len hwz⟩

set_option maxRecDepth 100000 in
set_option maxHeartbeats 6400000 in
theorem direct_walk (a : Option Addr) (len cap : Nat) (zs : List Int) (size k : Int) (w : World) (hx : IsRow .i64 w a len cap zs) (hs : In64 size) (hk : In64 k) (hq : Quar w) :
    Calls Tryd.prog 3 #[.slice a len cap, .int .i64 size, .int .i64 k] w fun e w' => e = .returned (.bool true) ∧ Below w.heap.size w w' := by
  obtain ⟨xs, hlen, hl63, hlx, hsx⟩ := row_all a len cap zs w hx
  obtain ⟨h, hm, hsz⟩ := sized_any size hs
  obtain ⟨hp0, hp1⟩ := mayN_pos hm
  have HM := hide hm
  have HL := hide hlx
  have HS := hide hsx
  have HN := hide hlen
  have HQ := hide hq
  have HZ := hide hsz
  clear hx hlx hsx hq hm hsz hlen
  go_enter Tryd.func3, Tryd.ntmps3
  go_wp2_with fail
  refine (fft_awake w (unhide HQ)).mono ?_
  rintro e w1 ⟨rfl, hb⟩
  have HB1 := hide hb
  clear hb
  go_wp2_with fail
  refine (unhide HZ a len cap xs w1 ((unhide HL).below (unhide HB1)) (unhide HN)).mono ?_
  rintro e w2 ⟨g, rfl, hg, hc, hb⟩
  obtain ⟨n, hn⟩ : ∃ n, 2 * h = n := ⟨_, rfl⟩
  rw [hn] at hc ⊢
  have hn64 : n ≤ 64 := by omega
  have HNH := hide (show n = 2 * h from hn.symm)
  obtain ⟨V, hV⟩ : ∃ V, sizedL xs n = V := ⟨_, rfl⟩
  rw [hV] at hc
  have HVL := hide (show V.length = n by rw [← hV]; exact sized_len _ _)
  have HVS := hide (show Small V by rw [← hV]; exact sized_small _ _ (unhide HS))
  have HB2 := hide (below_trans (unhide HB1) hb)
  have HC2 := hide hc.lies
  clear hb hg hc hV hn HB1
  go_wp2_with fail
  refine (spins_yes (some ⟨g, 0, none⟩) n n h V _ (unhide HC2) (unhide HVS) (unhide HVL) (unhide HNH) (unhide HM)).mono ?_
  rintro e w3 ⟨p, rfl, hr, hb⟩
  obtain ⟨b, rfl, hra⟩ := hr.rat
  have HB3 := hide (below_trans (unhide HB2) hb)
  have HC3 := hide ((unhide HC2).below hb)
  have HR3 := hide hra
  clear hb hr hra HC2 HB2
  go_wp2
  go_loopw [10] (fun i wr => ∃ j : Nat, j ≤ n ∧ i = .int .i64 (j : Int) ∧ Hid (Below w3.heap.size w3 wr))
    (fun i _ => n - (intOf i).toNat)
  case atStart => exact ⟨0, by omega, rfl, Below.refl _ _⟩
  case round =>
    obtain ⟨j, hj, rfl, HBr⟩ := hrel
    obtain ⟨w4, rfl⟩ : ∃ x, x = wr := ⟨_, rfl⟩
    by_cases hlt : j < n
    · have hjin : In64 (j : Int) := by unfold In64; omega
      go_wp2_with fail
      refine (rfsum_yes (some ⟨g, 0, none⟩) n n h (j : Int) V _ ((unhide HC3).below (unhide HBr)) (unhide HVS) (unhide HVL) (unhide HNH) (unhide HM) hjin).mono ?_
      rintro e w5 ⟨a5, l5, c5, rfl, h1, h2, h3, _⟩
      obtain rfl : l5 = h := by rw [← h1, spinS_len]
      obtain ⟨h, hhe⟩ : ∃ h, h = l5 := ⟨_, rfl⟩
      subst hhe
      have HB5 := hide (below_trans (unhide HBr) h3)
      have HL5 := hide h2
      obtain ⟨q, c, e6, l6⟩ := ((unhide HR3).below (unhide HB5)).2 j hlt
      have L6 := hide l6
      rw [show ((fun j : Nat => spinS h (j : Int) V) j).length = h from spinS_len _ _ _] at e6
      clear h1 h2 h3 HBr l6
      go_wp2_with fail
      refine (same_any q a5 c c5 (spinS h (j : Int) V) h (spinS_len _ _ _) (by omega) _ (unhide L6) (unhide HL5)).mono ?_
      rintro e w6 ⟨rfl, h3⟩
      have HB6 := hide (below_trans (unhide HB5) h3)
      have HL6 := hide ((unhide HL5).below h3)
      clear h3 HB5 HL5 e6 L6
      go_wp2_with fail
      refine (fsum_yes (some ⟨g, 0, none⟩) n n h (j : Int) V _ ((unhide HC3).below (unhide HB6)) (unhide HVS) (unhide HVL) (unhide HNH) (unhide HM) hjin).mono ?_
      rintro e w7 ht
      obtain ⟨a7, c7, rfl, h2, h3⟩ := told_len ht (spinS_len _ _ _)
      have HB7 := hide (below_trans (unhide HB6) h3)
      have HL7 := hide ((unhide HL6).below h3)
      have HT7 := hide h2
      clear h2 h3 ht HB6 HL6
      go_wp2_with fail
      refine (same_any a7 a5 c7 c5 (spinS h (j : Int) V) h (spinS_len _ _ _) (by omega) _ (unhide HT7) (unhide HL7)).mono ?_
      rintro e w8 ⟨rfl, h3⟩
      have HB8 := hide (below_trans (unhide HB7) h3)
      clear h3 HB7 HL7 HT7
      go_wp2
      go_roundw
      case rel => exact ⟨j + 1, by omega, by simp, HB8⟩
      case measure => simp [intOf]; omega
    · obtain rfl : j = n := by omega
      go_wp2_with fail
      refine (fsum_yes (some ⟨g, 0, none⟩) j j h k V _ ((unhide HC3).below (unhide HBr)) (unhide HVS) (unhide HVL) (unhide HNH) (unhide HM) hk).mono ?_
      rintro e w7 ht
      obtain ⟨a7, c7, rfl, h2, h3⟩ := told_len ht (spinS_len _ _ _)
      have HB7 := hide (below_trans (unhide HBr) h3)
      have HT7 := hide h2
      clear h2 h3 ht HBr
      go_wp2_with fail
      refine (rfsum_yes (some ⟨g, 0, none⟩) j j h k V _ ((unhide HC3).below (unhide HB7)) (unhide HVS) (unhide HVL) (unhide HNH) (unhide HM) hk).mono ?_
      rintro e w5 ⟨a5, l5, c5, rfl, h1, h2, h3, _⟩
      obtain rfl : l5 = h := by rw [← h1, spinS_len]
      have HB5 := hide (below_trans (unhide HB7) h3)
      have HT5 := hide ((unhide HT7).below h3)
      have HL5 := hide h2
      clear h1 h2 h3 HB7 HT7
      go_wp2_with fail
      refine (same_any a7 a5 c7 c5 (spinS l5 k V) l5 (spinS_len _ _ _) (by omega) _ (unhide HT5) (unhide HL5)).mono ?_
      rintro e w8 ⟨rfl, h3⟩
      have HB8 := hide (below_trans (unhide HB3) (below_trans (unhide HB5) h3))
      clear h3 HB5 HT5 HL5
      go_wp2
      go_ret
      exact ⟨rfl, unhide HB8⟩
end Go.Proofs.YtafbdkebokhnlaaDoor
