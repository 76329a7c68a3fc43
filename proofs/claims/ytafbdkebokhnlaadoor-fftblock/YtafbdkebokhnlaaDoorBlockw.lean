/- FftBlock returns true. -/
import Derived.Test.YtafbdkebokhnlaaDoorBackw
namespace Go.Proofs.YtafbdkebokhnlaaDoor
open Go.RowKit
set_option linter.unusedVariables false

/-- A number of sixteen bits. -/
def s16 (x : Int) : Int := (x + 32768) % 65536 - 32768
theorem wrap_16 (x : Int) : IntKind.i16.wrap x = s16 x := by
  unfold s16
  simp [IntKind.wrap, IntKind.signed, IntKind.bits]
  try omega
theorem s16_bd (x : Int) : -32768 ≤ s16 x ∧ s16 x ≤ 32767 := by unfold s16; omega
def cutTo (V : List Int) (j : Nat) : List Int := mkL V.length fun i => if i < j then s16 (V.getD i 0) else V.getD i 0
theorem cutTo_len (V : List Int) (j : Nat) : (cutTo V j).length = V.length := mkL_len _ _
theorem cutTo_zero (V : List Int) : cutTo V 0 = V := mkL_eq _ _ _ rfl fun i _ => by rw [if_neg (by omega)]
theorem cutTo_at (V : List Int) (j : Nat) (h : j < V.length) : (cutTo V j).getD j 0 = V.getD j 0 := by
  unfold cutTo; rw [mkL_at _ _ _ h, if_neg (by omega)]
theorem cutTo_set (V : List Int) (j : Nat) (h : j < V.length) : (cutTo V j).set j (s16 (V.getD j 0)) = cutTo V (j + 1) := by
  refine list_same (by rw [List.length_set, cutTo_len, cutTo_len]) fun i hi => ?_
  rw [List.length_set, cutTo_len] at hi
  rw [getD_set, cutTo_len]
  by_cases c : j = i
  · subst c; rw [if_pos ⟨rfl, h⟩]; unfold cutTo; rw [mkL_at _ _ _ h, if_pos (by omega)]
  · rw [if_neg (fun h => c h.1)]; unfold cutTo; rw [mkL_at _ _ _ hi, mkL_at _ _ _ hi]
    by_cases d : i < j
    · rw [if_pos d, if_pos (by omega)]
    · rw [if_neg d, if_neg (by omega)]
def cut16 (V : List Int) (n : Nat) : List Int := mkL n fun i => s16 (V.getD i 0)
theorem cutTo_all (V : List Int) (n : Nat) (h : V.length = n) : cutTo V n = cut16 V n := by
  unfold cutTo cut16; rw [h]; exact mkL_congr _ _ _ fun i hi => by rw [if_pos hi]
theorem half_none (s : Int) : halfI 0 s = 0 := by
  unfold halfI; split
  · have := two_pos s
    rw [divI_yes _ _ this]; simp; omega
  · rfl

set_option maxRecDepth 100000 in
set_option maxHeartbeats 6400000 in
theorem block_walk (a : Option Addr) (len cap : Nat) (zs : List Int) (size k : Int) (w : World) (hx : IsRow .i64 w a len cap zs) (hs : In64 size) (hk : In64 k) (hq : Quar w) :
    Calls Tryd.prog 7 #[.slice a len cap, .int .i64 size, .int .i64 k] w fun e w' => e = .returned (.bool true) ∧ Below w.heap.size w w' := by
  obtain ⟨xs, hlen, hl63, hlx, hsx⟩ := row_all a len cap zs w hx
  obtain ⟨h, hm, hsz⟩ := sized_any size hs
  obtain ⟨hp0, hp1⟩ := mayN_pos hm
  have HM := hide hm
  have HL := hide hlx
  have HS := hide hsx
  have HN := hide hlen
  have HQ := hide hq
  have HZ := hide hsz
  clear hx hlx hsx hq hm hsz hlen
  go_enter Tryd.func7, Tryd.ntmps7
  go_wp2_with fail
  refine (fft_awake w (unhide HQ)).mono ?_
  rintro e w1 ⟨rfl, hb⟩
  have HB1 := hide hb
  clear hb
  go_wp2_with fail
  refine (unhide HZ a len cap xs w1 ((unhide HL).below (unhide HB1)) (unhide HN)).mono ?_
  rintro e w2 ⟨g, rfl, hg, hc, hb⟩
  obtain ⟨n, hn⟩ : ∃ n, 2 * h = n := ⟨_, rfl⟩
  rw [hn] at hc ⊢
  have hn64 : n ≤ 64 := by omega
  have hn1 : 1 ≤ n := by omega
  have HNH := hide (show n = 2 * h from hn.symm)
  have hd : (n : Int) / 2 = (h : Int) := by omega
  have HMF := hide (show mayF n by rw [← hn]; exact mayF_of (unhide HM))
  obtain ⟨V, hV⟩ : ∃ V, sizedL xs n = V := ⟨_, rfl⟩
  rw [hV] at hc
  have HVL := hide (show V.length = n by rw [← hV]; exact sized_len _ _)
  have HVS := hide (show Small V by rw [← hV]; exact sized_small _ _ (unhide HS))
  have HB2 := hide (below_trans (unhide HB1) hb)
  have HG := hide (show w.heap.size ≤ g by have := (unhide HB1).size; omega)
  have HC2 := hide hc
  clear hb hg hc hV hn HB1
  go_wp2
  rw [← cutTo_zero V] at HC2
  go_loopw [10] (fun i wr => ∃ j : Nat, j ≤ n ∧ i = .int .i64 (j : Int) ∧ Hid (Cells wr g (ints (cutTo V j))) ∧ Hid (Below w.heap.size w wr))
    (fun i _ => n - (intOf i).toNat)
  case atStart => exact ⟨0, by omega, rfl, HC2, HB2⟩
  case round =>
    obtain ⟨j, hj, rfl, HOr, HBr⟩ := hrel
    by_cases hlt : j < n
    · have hcell := (unhide HOr).cell j _ (ints_at _ j (by rw [cutTo_len, unhide HVL]; exact hlt))
      rw [cutTo_at V j (by rw [unhide HVL]; exact hlt)] at hcell
      have hfree := (unhide HOr).free j
      have hset := cutTo_set V j (by rw [unhide HVL]; exact hlt)
      generalize V.getD j 0 = x at hcell hset
      have hb16 := s16_bd x
      obtain ⟨y, hy⟩ : ∃ y, s16 x = y := ⟨_, rfl⟩
      have h16 : IntKind.i16.wrap x = y := by rw [← hy, wrap_16]
      rw [hy] at hset hb16
      have HSet := hide hset
      clear hset hy HC2 HB2
      go_wp2
      go_roundw
      case rel =>
        refine ⟨j + 1, by omega, by simp, ?_, (unhide HBr).setCell (unhide HG) _⟩
        have := (unhide HOr).set j (.int .i64 y)
        rw [ints_set, unhide HSet] at this
        exact this
      case measure => simp [intOf]; omega
    · obtain rfl : j = n := by omega
      rw [cutTo_all V j (unhide HVL)] at HOr
      obtain ⟨W, hW⟩ : ∃ W, cut16 V j = W := ⟨_, rfl⟩
      have HWL := hide (show W.length = j by rw [← hW]; exact mkL_len _ _)
      have HWB := hide (show ∀ t, t < j → -32768 ≤ W.getD t 0 ∧ W.getD t 0 ≤ 32768 from fun t ht => by
        rw [← hW]; unfold cut16; rw [mkL_at _ _ _ ht]; have := s16_bd (V.getD t 0); omega)
      have HWS := hide (show Small W by rw [← hW]; exact small_mk _ _ fun i _ => by have := s16_bd (V.getD i 0); constructor <;> omega)
      rw [hW] at HOr
      obtain ⟨w3, rfl⟩ : ∃ x, x = wr := ⟨_, rfl⟩
      have HW3 := hide (unhide HOr).lies
      clear hW HC2 HB2 HOr
      obtain ⟨n, rfl⟩ : ∃ n, n = j := ⟨_, rfl⟩
      go_wp2_with fail
      refine (bins_yes (some ⟨g, 0, none⟩) n n h W _ (unhide HW3) (unhide HWS) (unhide HWL) (unhide HNH) (unhide HM) ((unhide HQ).below (unhide HBr))).mono ?_
      rintro e w4 ⟨g1, g2, rfl, h1, h2, hb⟩
      obtain ⟨m, hmm⟩ : ∃ m, h + 1 = m := ⟨_, rfl⟩
      have hmi : (h : Int) + 1 = (m : Int) := by omega
      have hm64 : m ≤ 33 := by omega
      obtain ⟨P, hP⟩ : ∃ P, partsL cosC h W ++ partsL sinC h W = P := ⟨_, rfl⟩
      obtain ⟨s, hse⟩ : ∃ s, movS h W = s := ⟨_, rfl⟩
      have hPs : shiftI P = s := by rw [← hse, ← hP]; rfl
      have hPl : P.length = m + m := by rw [← hP, List.length_append, parts_len, parts_len, hmm]
      have hP1 : ∀ i, i < m → P.getD i 0 = (partsL cosC h W).getD i 0 := fun i hi => by
        rw [← hP]; simp [List.getD_eq_getElem?_getD, List.getElem?_append_left (show i < (partsL cosC h W).length by rw [parts_len]; omega)]
      have hP2 : ∀ i, i < m → P.getD (m + i) 0 = (partsL sinC h W).getD i 0 := fun i hi => by
        have e : m + i - (partsL cosC h W).length = i := by rw [parts_len]; omega
        rw [← hP, List.getD_eq_getElem?_getD, List.getElem?_append_right (by rw [parts_len]; omega), e, ← List.getD_eq_getElem?_getD]
      have hbnd : ∀ i, i < P.length → (P.getD i 0).natAbs < 2 ^ 45 := by
        intro i hi
        rw [hPl] at hi
        have hb1 : ∀ (c : Nat → Int), c = cosC ∨ c = sinC → ∀ q, q < m → ((partsL c h W).getD q 0).natAbs < 2 ^ 45 := by
          intro c hc q hq
          unfold partsL
          rw [mkL_at _ _ _ (by omega)]
          have := part_bd c hc h (q : Int) W (unhide HM) (by rw [unhide HWL]; exact unhide HNH) (fun t ht => unhide HWB t (by have := unhide HNH; omega))
          omega
        by_cases c : i < m
        · rw [hP1 i c]; exact hb1 cosC (.inl rfl) i c
        · have := hP2 (i - m) (by omega)
          rw [show m + (i - m) = i by omega] at this
          rw [this]; exact hb1 sinC (.inr rfl) (i - m) (by omega)
      obtain ⟨hs0, hs30⟩ := block_shift P hbnd
      have hall : ∀ i, i < P.length → -32768 ≤ halfI (P.getD i 0) s ∧ halfI (P.getD i 0) s ≤ 32768 := fun i hi => by
        have := block_all P i hi hs30; rwa [hPs] at this
      have hsome : s ≠ 0 → ∃ i, i < P.length ∧ (16384 ≤ halfI (P.getD i 0) s ∨ halfI (P.getD i 0) s ≤ -16384) := fun h0 => by
        have := block_some P (by rw [hPs]; exact h0) hs30; rwa [hPs] at this
      rw [hPs] at hs0 hs30
      obtain ⟨R, hR⟩ : ∃ R, downL s (partsL cosC h W) = R := ⟨_, rfl⟩
      obtain ⟨I, hI⟩ : ∃ R, downL s (partsL sinC h W) = R := ⟨_, rfl⟩
      have HRL := hide (show R.length = m by rw [← hR, down_len, parts_len, hmm])
      have HIL := hide (show I.length = m by rw [← hI, down_len, parts_len, hmm])
      have hRat : ∀ i, i < m → R.getD i 0 = halfI (P.getD i 0) s := fun i hi => by rw [hP1 i hi, ← hR, down_at _ _ _ (by rw [parts_len]; omega)]
      have hIat : ∀ i, i < m → I.getD i 0 = halfI (P.getD (m + i) 0) s := fun i hi => by rw [hP2 i hi, ← hI, down_at _ _ _ (by rw [parts_len]; omega)]
      have HRB := hide (show ∀ i, i < m → -32768 ≤ R.getD i 0 ∧ R.getD i 0 ≤ 32768 from fun i hi => by rw [hRat i hi]; exact hall i (by omega))
      have HIB := hide (show ∀ i, i < m → -32768 ≤ I.getD i 0 ∧ I.getD i 0 ≤ 32768 from fun i hi => by rw [hIat i hi]; exact hall (m + i) (by omega))
      have HSO := hide (show s ≠ 0 → ∃ i, i < m ∧ (16384 ≤ R.getD i 0 ∨ R.getD i 0 ≤ -16384 ∨ 16384 ≤ I.getD i 0 ∨ I.getD i 0 ≤ -16384) from fun h0 => by
        obtain ⟨i, hi, hv⟩ := hsome h0
        by_cases c : i < m
        · refine ⟨i, c, ?_⟩; rw [hRat i c]; omega
        · refine ⟨i - m, by omega, ?_⟩
          have := hIat (i - m) (by omega)
          rw [show m + (i - m) = i by omega] at this
          rw [this]; omega)
      have HI0 := hide (show I.getD 0 0 = 0 by
        rw [← hI, down_at _ _ _ (by rw [parts_len]; omega)]
        unfold partsL
        rw [mkL_at _ _ _ (by omega), part_end h ((0 : Nat) : Int) W (unhide HM) (.inl rfl), half_none])
      have HIh := hide (show I.getD h 0 = 0 by
        rw [← hI, down_at _ _ _ (by rw [parts_len]; omega)]
        unfold partsL
        rw [mkL_at _ _ _ (by omega), part_end h (h : Int) W (unhide HM) (.inr rfl), half_none])
      rw [hse, hR] at h1
      rw [hse, hI] at h2
      rw [hse, hmm]
      have HC1 := hide h1.lies
      have HC2 := hide h2.lies
      have HB4 := hide (below_trans (unhide HBr) hb)
      have HW4 := hide ((unhide HW3).below hb)
      have hneq : ((m : Int) != (m : Int)) = false := by simp
      clear h1 h2 hb hP hse hPs hPl hP1 hP2 hbnd hall hsome hR hI hRat hIat hmm HBr HW3
      go_wp2
      go_loopw [14, 15] (fun v i wr => ∃ (j : Nat) (M : Int), j ≤ m ∧ v = .int .i64 M ∧ i = .int .i64 (j : Int) ∧ Hid (0 ≤ M ∧ M ≤ 32768 ∧ ∀ t, t < j → R.getD t 0 ≤ M ∧ -R.getD t 0 ≤ M ∧ I.getD t 0 ≤ M ∧ -I.getD t 0 ≤ M) ∧ Hid (Below w4.heap.size w4 wr))
        (fun _ i _ => m - (intOf i).toNat)
      case atStart => exact ⟨0, 0, by omega, rfl, rfl, ⟨by omega, by omega, fun t ht => absurd ht (Nat.not_lt_zero _)⟩, Below.refl _ _⟩
      case round =>
        obtain ⟨j, M, hj, rfl, rfl, HMx, HBr⟩ := hrel
        obtain ⟨w5, rfl⟩ : ∃ x, x = wr := ⟨_, rfl⟩
        by_cases hlt : j < m
        · obtain ⟨b1, o1, e1, hlt1, k1⟩ := ((unhide HC1).below (unhide HBr)).some (by intro e; have := unhide HRL; rw [e] at this; simp at this; omega)
          obtain ⟨b2, o2, e2, hlt2, k2⟩ := ((unhide HC2).below (unhide HBr)).some (by intro e; have := unhide HIL; rw [e] at this; simp at this; omega)
          cases e1
          cases e2
          have cx := k1 j (by rw [unhide HRL]; exact hlt)
          have cy := k2 j (by rw [unhide HIL]; exact hlt)
          rw [Nat.zero_add] at cx cy
          have hxb := unhide HRB j hlt
          have hyb := unhide HIB j hlt
          obtain ⟨x, hx⟩ : ∃ x, R.getD j 0 = x := ⟨_, rfl⟩
          obtain ⟨y, hy⟩ : ∃ x, I.getD j 0 = x := ⟨_, rfl⟩
          rw [hx] at cx hxb
          rw [hy] at cy hyb
          have HX := hide hx
          have HY := hide hy
          obtain ⟨M0, M1, MB⟩ := unhide HMx
          have HMB := hide MB
          obtain ⟨M2, hM2⟩ : ∃ z, max M (max x (max (-x) (max y (-y)))) = z := ⟨_, rfl⟩
          have hMf := hide (show 0 ≤ M2 ∧ M2 ≤ 32768 ∧ M ≤ M2 ∧ x ≤ M2 ∧ -x ≤ M2 ∧ y ≤ M2 ∧ -y ≤ M2 by rw [← hM2]; omega)
          have HM2 := hide hM2
          clear hM2
          have hwx : IntKind.i64.wrap (-x) = -x := by rw [IntKind.wrap_i64]; omega
          have hwy : IntKind.i64.wrap (-y) = -y := by rw [IntKind.wrap_i64]; omega
          have hjm : (j : Int) < (m : Int) := by omega
          clear k1 k2 hx hy MB
          go_wp2
          go_quiet (fail)
          rw [unhide HM2]
          have HB6 := hide (below_trans (unhide HBr) (below_drewN w5 nq))
          obtain ⟨w6, hw6⟩ : ∃ w6, w5.drewN nq = w6 := ⟨_, rfl⟩
          rw [hw6] at HB6 ⊢
          clear hw6 cx cy hwx hwy HBr HMx hlt1 hlt2
          go_wp2
          go_roundw
          case rel =>
            refine ⟨j + 1, M2, by omega, rfl, by simp, ?_, HB6⟩
            obtain ⟨f0, f1, f2, f3, f4, f5, f6⟩ := unhide hMf
            refine ⟨f0, f1, fun t ht => ?_⟩
            by_cases c : t = j
            · subst c; rw [unhide HX, unhide HY]; exact ⟨f3, f4, f5, f6⟩
            · have := unhide HMB t (by omega); omega
          case measure => simp [intOf]; omega
        · obtain rfl : j = m := by omega
          obtain ⟨M0, M1, MB⟩ := unhide HMx
          have hand := and_may n k (unhide HMF)
          obtain ⟨t, ht, htn⟩ : ∃ t : Nat, k % (n : Int) = t ∧ t < n := ⟨(k % (n : Int)).toNat, by have := Int.emod_nonneg k (b := (n : Int)) (by omega); omega, by have := Int.emod_lt_of_pos k (b := (n : Int)) (by omega); omega⟩
          rw [ht] at hand
          have htin : In64 (t : Int) := by unfold In64; omega
          have hntin : In64 ((n : Int) - (t : Int)) := by unfold In64; omega
          have HSM := hide (show s = 0 ∨ 16384 ≤ M by
            by_cases c : s = 0
            · exact .inl c
            · right
              obtain ⟨i, hi, hv⟩ := unhide HSO c
              have := MB i hi
              omega)
          have HNM := hide (norm_most M M0 M1)
          have HW5 := hide ((unhide HW4).below (unhide HBr))
          have HC25 := hide ((unhide HC2).below (unhide HBr))
          have HB5 := hide (below_trans (unhide HB4) (unhide HBr))
          clear MB HMx ht HBr HB4 HW4
          go_wp2_with fail
          refine (fsum_yes (some ⟨g, 0, none⟩) n n h (t : Int) W _ (unhide HW5) (unhide HWS) (unhide HWL) (unhide HNH) (unhide HM) htin).mono ?_
          rintro e w7 ht
          obtain ⟨a7, c7, rfl, h2, h3⟩ := told_len ht (spinS_len _ _ _)
          have HB7 := hide (below_trans (unhide HB5) h3)
          have HT7 := hide h2
          have HW7 := hide ((unhide HW5).below h3)
          have HC27 := hide ((unhide HC25).below h3)
          clear h2 h3 ht HB5 HW5 HC25
          go_wp2_with fail
          refine (fsum_yes (some ⟨g, 0, none⟩) n n h ((n : Int) - (t : Int)) W _ (unhide HW7) (unhide HWS) (unhide HWL) (unhide HNH) (unhide HM) hntin).mono ?_
          rintro e w8 ht
          obtain ⟨a8, c8, rfl, h2, h3⟩ := told_len ht (spinS_len _ _ _)
          have HB8 := hide (below_trans (unhide HB7) h3)
          have HT8 := hide h2
          have HT7' := hide ((unhide HT7).below h3)
          have HC28 := hide ((unhide HC27).below h3)
          have HQ8 := hide ((unhide HQ).below (unhide HB8))
          clear h2 h3 ht HB7 HW7 HC27 HT7
          have hQ1 := part_conj_re h (t : Int) (n : Int) W (unhide HM) (by rw [unhide HNH]; simp)
          have hQ2 := part_conj_im h (t : Int) (n : Int) W (unhide HM) (by rw [unhide HNH]; simp)
          obtain ⟨A, hA⟩ : ∃ A, partI cosC (spinS h (t : Int) W) = A := ⟨_, rfl⟩
          obtain ⟨C, hC⟩ : ∃ A, partI sinC (spinS h (t : Int) W) = A := ⟨_, rfl⟩
          rw [hA] at hQ1
          rw [hC] at hQ2
          have hCin : In64 C := by
            rw [← hC]; unfold partI; split
            · exact in_w64 _
            · constructor <;> decide
          obtain ⟨E, hE⟩ : ∃ E, wrap64 (0 - C) = E := ⟨_, rfl⟩
          rw [hE] at hQ2
          have hEC : wrap64 (-E) = C := by rw [← hE]; unfold wrap64; obtain ⟨z1, z2⟩ := hCin; omega
          have HQ1 := hide hQ1
          have HQ2 := hide hQ2
          have HA := hide hA
          have HCC := hide hC
          obtain ⟨nv, hnv⟩ : ∃ nv, normI [M - 1] = nv := ⟨_, rfl⟩
          have hnv15 : nv ≤ 15 := by rw [← hnv]; exact unhide HNM
          have HNV := hide hnv
          have HM1S := hide (show Small [M - 1] by intro x hx; simp at hx; subst hx; constructor <;> omega)
          have hjh : (h : Int) < (j : Int) := by omega
          have hj0 : (0 : Int) < (j : Int) := by omega
          clear hQ1 hQ2 hA hC hE hnv HNM hCin
          by_cases c : s = 0
          case' neg =>
            have hM16 : 16384 ≤ M := by rcases unhide HSM with e | e; exact absurd e c; exact e
          all_goals (
            clear HSM
            go_wp2_with fail
            refine (norm_any (some ⟨w8.heap.size, 0, none⟩) 1 [M - 1] 1 rfl _ (lies_new w8 [M - 1] _ rfl) (unhide HM1S) (by omega)).mono ?_
            rintro e w9 ⟨rfl, rfl⟩
            rw [unhide HNV]
            have hb := alloc_below w8 (.cells #[.int .i64 (M - 1)] 3)
            have HB9 := hide (below_trans (unhide HB8) hb)
            have HQ9 := hide ((unhide HQ8).below hb)
            have HA9 := hide ((unhide HT7').below hb)
            have HE9 := hide ((unhide HT8).below hb)
            have HC9 := hide ((unhide HC28).below hb)
            clear hb HB8 HQ8 HT7' HT8 HC28
            go_wp2_with fail
            refine (real_any a7 c7 h (spinS h (t : Int) W) _ (unhide HA9) (spinS_small _ _ _) (spinS_len _ _ _) (unhide HQ9)).mono ?_
            rintro e w10 ⟨rfl, hb⟩
            rw [unhide HA]
            have HB10 := hide (below_trans (unhide HB9) hb)
            have HQ10 := hide ((unhide HQ9).below hb)
            have HA10 := hide ((unhide HA9).below hb)
            have HE10 := hide ((unhide HE9).below hb)
            have HC10 := hide ((unhide HC9).below hb)
            clear hb HB9 HQ9 HA9 HE9 HC9
            go_wp2_with fail
            refine (real_any a8 c8 h (spinS h ((n : Int) - (t : Int)) W) _ (unhide HE10) (spinS_small _ _ _) (spinS_len _ _ _) (unhide HQ10)).mono ?_
            rintro e w11 ⟨rfl, hb⟩
            rw [unhide HQ1]
            have HB11 := hide (below_trans (unhide HB10) hb)
            have HQ11 := hide ((unhide HQ10).below hb)
            have HA11 := hide ((unhide HA10).below hb)
            have HE11 := hide ((unhide HE10).below hb)
            have HC11 := hide ((unhide HC10).below hb)
            clear hb HB10 HQ10 HA10 HE10 HC10
            go_wp2_with fail
            refine (imag_any a7 c7 h (spinS h (t : Int) W) _ (unhide HA11) (spinS_small _ _ _) (spinS_len _ _ _) (unhide HQ11)).mono ?_
            rintro e w12 ⟨rfl, hb⟩
            rw [unhide HCC]
            have HB12 := hide (below_trans (unhide HB11) hb)
            have HQ12 := hide ((unhide HQ11).below hb)
            have HE12 := hide ((unhide HE11).below hb)
            have HC12 := hide ((unhide HC11).below hb)
            clear hb HB11 HQ11 HE11 HC11
            go_wp2_with fail
            refine (imag_any a8 c8 h (spinS h ((n : Int) - (t : Int)) W) _ (unhide HE12) (spinS_small _ _ _) (spinS_len _ _ _) (unhide HQ12)).mono ?_
            rintro e w13 ⟨rfl, hb⟩
            rw [unhide HQ2]
            have HB13 := hide (below_trans (unhide HB12) hb)
            have HQ13 := hide ((unhide HQ12).below hb)
            have HC13 := hide ((unhide HC12).below hb)
            clear hb HB12 HQ12 HC12
            obtain ⟨b2, o2, e2, hlt2, k2⟩ := (unhide HC13).some (by intro e; have := unhide HIL; rw [e] at this; simp at this; omega)
            cases e2
            have cx := k2 0 (by rw [unhide HIL]; omega)
            have cy := k2 h (by rw [unhide HIL]; omega)
            rw [unhide HI0] at cx
            rw [unhide HIh] at cy
            rw [Nat.zero_add] at cx cy
            clear k2
            go_wp2
            go_ret
            exact ⟨rfl, unhide HB13⟩)
end Go.Proofs.YtafbdkebokhnlaaDoor
