/- FftBack returns true. -/
import Derived.Test.YtafbdkebokhnlaaDoorDirect
namespace Go.Proofs.YtafbdkebokhnlaaDoor
open Go.RowKit
set_option linter.unusedVariables false

theorem and_may (n : Nat) (x : Int) (h : mayF n) : bits .and .i64 x ((n : Int) - 1) = x % (n : Int) := by
  rcases h with rfl | rfl | rfl | rfl | rfl | rfl
  · exact i64_mask x _ 1 (by decide) (by decide)
  · exact i64_mask x _ 2 (by decide) (by decide)
  · exact i64_mask x _ 3 (by decide) (by decide)
  · exact i64_mask x _ 4 (by decide) (by decide)
  · exact i64_mask x _ 5 (by decide) (by decide)
  · exact i64_mask x _ 6 (by decide) (by decide)
theorem rest5 (x : Int) (hx : In64 x) : ∃ t y : Int, x.tmod 5 = t ∧ -5 < t ∧ t < 5 ∧ (t + 5).tmod 5 = y ∧ 0 ≤ y ∧ y < 5 := by
  have h1 := Int.tmod_lt_of_pos x (b := 5) (by decide)
  have h2 := Int.lt_tmod_of_pos x (b := 5) (by decide)
  refine ⟨_, _, rfl, by omega, by omega, rfl, ?_, ?_⟩
  · rw [Int.tmod_eq_emod_of_nonneg (by omega)]; omega
  · rw [Int.tmod_eq_emod_of_nonneg (by omega)]; omega

theorem fbackTo_zero (h : Nat) (xs : List Int) (t0 : Int) : fbackTo h xs t0 0 = List.replicate h 0 :=
  mkL_eq _ _ _ (by simp) fun i hi => by rw [zero_at]; exact w64_zero
theorem fbackTo_len (h : Nat) (xs : List Int) (t0 : Int) (K : Nat) : (fbackTo h xs t0 K).length = h := mkL_len _ _
theorem fbackTo_small (h : Nat) (xs : List Int) (t0 : Int) (K : Nat) : Small (fbackTo h xs t0 K) := small_mk _ _ fun _ _ => in_w64 _

set_option maxRecDepth 100000 in
set_option maxHeartbeats 6400000 in
theorem back_walk (a : Option Addr) (len cap : Nat) (zs : List Int) (size at_ : Int) (w : World) (hx : IsRow .i64 w a len cap zs) (hs : In64 size) (hk : In64 at_) (hq : Quar w) :
    Calls Tryd.prog 5 #[.slice a len cap, .int .i64 size, .int .i64 at_] w fun e w' => e = .returned (.bool true) ∧ Below w.heap.size w w' := by
  obtain ⟨i0, hi, hz0, hz1, hz2⟩ := info_parts Tryd.info3
  obtain ⟨xs, hlen, hl63, hlx, hsx⟩ := row_all a len cap zs w hx
  obtain ⟨t5, y5, ht5, ht50, ht51, hy5, hy50, hy51⟩ := rest5 size hs
  obtain ⟨h, hm, h16, hsz⟩ := sized_five y5 hy50 hy51
  obtain ⟨hp0, hp1⟩ := mayN_pos hm
  have HM := hide hm
  have HL := hide hlx
  have HS := hide hsx
  have HN := hide hlen
  have HQ := hide hq
  have HZ := hide hsz
  clear hx hlx hsx hq hm hsz hlen
  go_enter Tryd.func5, Tryd.ntmps5
  go_wp2_with fail
  refine (fft_awake w (unhide HQ)).mono ?_
  rintro e w1 ⟨rfl, hb⟩
  have HB1 := hide hb
  clear hb
  go_wp2_with fail
  refine (unhide HZ a len cap xs w1 ((unhide HL).below (unhide HB1)) (unhide HN)).mono ?_
  rintro e w2 ⟨g, rfl, hg, hc, hb⟩
  obtain ⟨n, hn⟩ : ∃ n, 2 * h = n := ⟨_, rfl⟩
  rw [hn] at hc ⊢
  have hn64 : n ≤ 64 := by omega
  have hn1 : 1 ≤ n := by omega
  have HNH := hide (show n = 2 * h from hn.symm)
  have hd : (n : Int) / 2 = (h : Int) := by omega
  have HMF := hide (show mayF n by rw [← hn]; exact mayF_of (unhide HM))
  obtain ⟨V, hV⟩ : ∃ V, sizedL xs n = V := ⟨_, rfl⟩
  rw [hV] at hc
  have HVL := hide (show V.length = n by rw [← hV]; exact sized_len _ _)
  have HVS := hide (show Small V by rw [← hV]; exact sized_small _ _ (unhide HS))
  have HB2 := hide (below_trans (unhide HB1) hb)
  have HC2 := hide hc.lies
  have hand := and_may n at_ (unhide HMF)
  obtain ⟨t, ht, htn⟩ : ∃ t : Nat, at_ % (n : Int) = t ∧ t < n := ⟨(at_ % (n : Int)).toNat, by have := Int.emod_nonneg at_ (b := (n : Int)) (by omega); omega, by have := Int.emod_lt_of_pos at_ (b := (n : Int)) (by omega); omega⟩
  rw [ht] at hand
  clear hb hg hc hV hn HB1 ht
  go_wp2_with fail
  refine (spins_yes (some ⟨g, 0, none⟩) n n h V _ (unhide HC2) (unhide HVS) (unhide HVL) (unhide HNH) (unhide HM)).mono ?_
  rintro e w3 ⟨p, rfl, hr, hb⟩
  obtain ⟨b, rfl, hra⟩ := hr.rat
  have HB3 := hide (below_trans (unhide HB2) hb)
  have HC3 := hide ((unhide HC2).below hb)
  have HR3 := hide hra
  clear hb hr hra HC2 HB2
  go_wp2_with (at_make; refine wpList_make_full _ rfl _ _ 22 rfl w3.heap.size 3 i0 (.int .i64 0) 1 Tryd.underlying22 hi hz0 hz1 _ _ _ _ h rfl rfl rfl rfl ?m1 ?m2 ?m3 ?_)
  case m1 => rw [hz2]; omega
  case m2 => unfold maxLen; omega
  case m3 => exact Nat.le_refl _
  intro w4 hown hgr
  rw [ints_zero] at hown
  have HB4 := hide ((Below.refl w3.heap.size w3).grown hgr (Nat.le_refl _) (fun _ h => by cases h))
  have HO := hide (own_cells hown).lies
  rw [← fbackTo_zero h V t] at HO
  clear hown hgr
  go_wp2
  have HB34 := hide (below_trans (unhide HB3) (unhide HB4))
  have HC4 := hide ((unhide HC3).below (unhide HB4))
  have HR4 := hide ((unhide HR3).below (unhide HB4))
  clear HC3 HR3 HB3 HB4
  go_loopw [12, 13] (fun v i wr => ∃ (K : Nat) (p : Option Addr) (c : Nat), K ≤ n ∧ v = .slice p h c ∧ i = .int .i64 (K : Int) ∧ Hid (Lies wr p (fbackTo h V (t : Int) K)) ∧ Hid (Below w4.heap.size w4 wr))
    (fun _ i _ => n - (intOf i).toNat)
  case atStart => exact ⟨0, _, _, by omega, rfl, rfl, HO, Below.refl _ _⟩
  case round =>
    obtain ⟨K, p, c, hK, rfl, rfl, HOr, HBr⟩ := hrel
    by_cases hlt : K < n
    · obtain ⟨q, c2, e5, l5⟩ := ((unhide HR4).below (unhide HBr)).2 K hlt
      rw [show ((fun j : Nat => spinS h (j : Int) V) K).length = h from spinS_len _ _ _] at e5
      have HL5 := hide l5
      obtain ⟨P, hP, hP0, hP1⟩ : ∃ P : Int, (K : Int) * (t : Int) = P ∧ 0 ≤ P ∧ P ≤ 4096 := by
        refine ⟨_, rfl, ?_⟩
        have := Nat.mul_le_mul (show K ≤ 64 by omega) (show t ≤ 64 by omega)
        have e : ((K * t : Nat) : Int) = (K : Int) * (t : Int) := by simp
        omega
      have HP := hide hP
      have hbbr := ((unhide HR4).below (unhide HBr)).1
      clear l5 HO
      go_wp2_with fail
      refine (turn_told q c2 (spinS h (K : Int) V) h (-P) _ (unhide HL5) (spinS_small _ _ _) (spinS_len _ _ _) (by omega) (by unfold In64; omega)).mono ?_
      rintro e w5 ht
      obtain ⟨a5, c5, rfl, h2, h3⟩ := told_len ht (show (turnL (spinS h (K : Int) V) (-P)).length = h by rw [turn_len, spinS_len])
      have HB5 := hide (below_trans (unhide HBr) h3)
      have HO5 := hide ((unhide HOr).below h3)
      have HT5 := hide h2
      clear ht h2 h3 HBr HOr HL5 e5
      go_wp2_with fail
      refine (add_two p a5 h h c c5 (fbackTo h V (t : Int) K) (turnL (spinS h (K : Int) V) (-P)) w5 w5 (Below.refl _ _) (unhide HO5) (unhide HT5) (fbackTo_small _ _ _ _) (fbackTo_len _ _ _ _) (by rw [turn_len, spinS_len]) (by omega)).mono ?_
      rintro e w6 ⟨a6, l6, c6, rfl, h1, h2, h3⟩
      have es : sum2 (fbackTo h V (t : Int) K) (turnL (spinS h (K : Int) V) (-P)) = fbackTo h V (t : Int) (K + 1) := by
        unfold sum2
        rw [if_pos (by rw [turn_len, spinS_len, fbackTo_len])]
        have := fback_step h V (t : Int) K hp0
        rw [unhide HP, show 0 - P = -P by omega] at this
        exact this
      rw [es] at h1 h2
      obtain rfl : l6 = h := by rw [← h1, fbackTo_len]
      have HB6 := hide (below_trans (unhide HB5) h3)
      have HO6 := hide h2
      clear h1 h2 h3 es HB5 HO5 HT5
      go_wp2
      go_roundw
      case rel => exact ⟨K + 1, a6, c6, by omega, rfl, by simp, HO6, HB6⟩
      case measure => simp [intOf]; omega
    · obtain rfl : K = n := by omega
      obtain ⟨w5, rfl⟩ : ∃ x, x = wr := ⟨_, rfl⟩
      obtain ⟨x, hx⟩ : ∃ x, V.getD t 0 = x := ⟨_, rfl⟩
      obtain ⟨M, hM⟩ : ∃ M, (K : Int) * x = M := ⟨_, rfl⟩
      obtain ⟨X, hX⟩ : ∃ X, wrap64 M = X := ⟨_, rfl⟩
      have hall : fbackTo h V (t : Int) K = oneL h X := by
        have := fback_all h V t (unhide HM) h16 (by rw [unhide HVL]; exact unhide HNH) (by rw [← unhide HNH]; exact htn)
        rw [← unhide HNH, hx] at this
        rw [this, ← hX, ← hM]
        congr 2
        rw [unhide HNH]; simp
      rw [hall] at HOr
      obtain ⟨bs, os, rfl, hlts, hcs⟩ := (unhide HOr).some (by intro e; have := oneL_len h X; rw [e] at this; simp at this; omega)
      have s0 : w5.cell? ⟨bs, os, none⟩ = some (.int .i64 X) := by
        have := hcs 0 (by rw [oneL_len]; exact hp0)
        unfold oneL at this
        rw [mkL_at _ _ _ hp0, if_pos rfl] at this
        exact this
      have sj : ∀ j, 1 ≤ j → j < h → w5.cell? ⟨bs, os + j, none⟩ = some (.int .i64 0) := by
        intro j h1 h2
        have := hcs j (by rw [oneL_len]; exact h2)
        unfold oneL at this
        rw [mkL_at _ _ _ h2, if_neg (by omega)] at this
        exact this
      obtain ⟨bv, ov, hbv, hltv, hcv⟩ := ((unhide HC4).below (unhide HBr)).some (by intro e; have := unhide HVL; rw [e] at this; simp at this; omega)
      cases hbv
      have v0 := hcv t (by rw [unhide HVL]; exact htn)
      rw [hx, Nat.zero_add] at v0
      have HSJ := hide sj
      clear hcv hcs sj hall hx HO
      have hXw : IntKind.i64.wrap M = X := by rw [IntKind.wrap_i64, ← hX]; unfold wrap64; rfl
      have htK : (t : Int) < (K : Int) := by omega
      have ht0 : (0 : Int) ≤ (t : Int) := by omega
      have hh0 : (0 : Int) < (h : Int) := by omega
      have hne : ((h : Int) != (h : Int)) = false := by simp
      have hneX : ((X : Int) != (X : Int)) = false := by simp
      go_wp2
      go_quiet (fail)
      obtain ⟨w6, hw6⟩ : ∃ w6, w5.drewN nq = w6 := ⟨_, rfl⟩
      have HSJ6 := hide (show ∀ j, 1 ≤ j → j < h → w6.cell? ⟨bs, os + j, none⟩ = some (.int .i64 0) by rw [← hw6]; exact unhide HSJ)
      have HB6 := hide (show Below w.heap.size w w6 by rw [← hw6]; exact below_trans (unhide HB34) (below_trans (unhide HBr) (below_drewN _ _)))
      rw [hw6]
      clear hw6 HSJ hM hX hXw s0 v0
      go_wp2
      go_loopw [14] (fun i wr => ∃ j : Nat, 1 ≤ j ∧ j ≤ h ∧ i = .int .i64 (j : Int) ∧ wr = w6)
        (fun i _ => h - (intOf i).toNat)
      case atStart => exact ⟨1, by omega, by omega, rfl, rfl⟩
      case round =>
        obtain ⟨j, hj1, hj2, rfl, rfl⟩ := hrel
        by_cases c1 : j < h
        · have cj := unhide HSJ6 j hj1 c1
          go_wp2
          go_roundw
          case rel => exact ⟨j + 1, by omega, by omega, by simp, trivial⟩
          case measure => simp [intOf]; omega
        · obtain rfl : j = h := by omega
          go_wp2
          go_ret
          exact ⟨rfl, unhide HB6⟩
end Go.Proofs.YtafbdkebokhnlaaDoor
