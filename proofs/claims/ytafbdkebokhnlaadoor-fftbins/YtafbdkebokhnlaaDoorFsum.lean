/- fft.Sum: what it answers. -/
import Derived.Test.YtafbdkebokhnlaaDoorRows2
namespace Go.Proofs.YtafbdkebokhnlaaDoor
open Go.RowKit
set_option linter.unusedVariables false

/-- Sample t, turned. -/
def turnT (h : Nat) (R : Int) (xs : List Int) (t : Nat) : List Int := turnL (oneL h (xs.getD t 0)) (R * (t : Int))
theorem turnT_len (h : Nat) (R : Int) (xs : List Int) (t : Nat) : (turnT h R xs t).length = h := by unfold turnT; rw [turn_len, oneL_len]
theorem sum_rows (h : Nat) (k R : Int) (xs : List Int) (rs : List Rr) (n : Nat) (h0 : 0 < h) (hs : Small xs) (hR : R % (2 * (h : Int)) = k % (2 * (h : Int))) (hr : rs.length = n)
    (hc : ∀ t, t < n → (rs.getD t nilR).2.2 = turnT h R xs t) : ∀ T, T ≤ n → addAll h ((conts rs).take T) = spinTo h k xs T
  | 0, _ => by rw [List.take_zero, spinTo_zero]; rfl
  | T + 1, hT => by
    have hl : (conts rs).length = n := by unfold conts; rw [List.length_map, hr]
    rw [addAll_succ _ _ _ (by omega), sum_rows h k R xs rs n h0 hs hR hr hc T (by omega)]
    have e : (conts rs).getD T [] = turnT h R xs T := by
      rw [← hc T (by omega)]
      unfold conts
      have hk : T < rs.length := by omega
      simp [List.getD_eq_getElem?_getD, List.getElem?_eq_getElem hk]
    rw [e]
    exact spin_step h k (R * (T : Int)) xs T h0 (hs.all T) (by rw [Int.mul_emod, hR, ← Int.mul_emod])

set_option maxRecDepth 100000 in
theorem fsum_yes (a : Option Addr) (cap n h : Nat) (k : Int) (xs : List Int) (w : World) (hl : Lies w a xs) (hs : Small xs) (hn : xs.length = n) (hh : n = 2 * h) (hm : mayN h) (hk : In64 k) :
    Calls Tryd.prog 13 #[.int .i64 k, .slice a n cap] w (Told (spinS h k xs) w) := by
  obtain ⟨i0, hi, hz0, hz1, hz2⟩ := info_parts Tryd.info22
  obtain ⟨hp0, hp1⟩ := mayN_pos hm
  obtain ⟨R, hR, hR2⟩ : ∃ R : Nat, k % (n : Int) = R ∧ R < n := ⟨(k % (n : Int)).toNat, by have := Int.emod_nonneg k (b := (n : Int)) (by omega); omega, by have := Int.emod_lt_of_pos k (b := (n : Int)) (by omega); omega⟩
  have HRR := hide (show (R : Int) % (2 * (h : Int)) = k % (2 * (h : Int)) by rw [← hR, hh]; simp)
  have HRI := hide (show remI k (n : Int) = (R : Int) by rw [remI_pos _ _ (by omega), hR])
  have hM : mayF n := by rw [hh]; exact mayF_of hm
  have HM := hide hM
  have HL := hide hl
  have HN := hide hn
  have HS := hide hs
  have HH := hide hh
  have hn64 : n ≤ 64 := mayF_le hM
  have hn0 : 0 < n := by omega
  clear hl hn hs hm hM hh hR
  go_enter Tryd.func13, Tryd.ntmps13
  go_wp2_with fail
  refine (fmay_yes n _ (unhide HM)).mono ?_
  rintro e w0 ⟨rfl, rfl⟩
  go_wp2_with fail
  refine (parts_any k (n : Int) _ hk (by unfold In64; omega)).mono ?_
  rintro e w1 ⟨rfl, hb⟩
  rw [unhide HRI]
  have HB1 := hide hb
  clear hb
  go_wp2_with (at_make; refine wpList_make_full _ rfl _ _ 25 rfl w1.heap.size 22 i0 (.slice none 0 0) 1 Tryd.underlying25 hi hz0 hz1 _ _ _ _ n rfl rfl rfl rfl ?m1 ?m2 ?m3 ?_)
  case m1 => rw [hz2]; omega
  case m2 => unfold maxLen; omega
  case m3 => exact Nat.le_refl _
  intro w2 hown hgr
  rw [rows_zero] at hown
  have HO := hide (rows_made hown)
  have HB2 := hide ((unhide HB1).trans (((Below.refl w1.heap.size w1).grown hgr (Nat.le_refl _) (fun _ h => by cases h)).mono (unhide HB1).size))
  obtain ⟨b, hb⟩ : ∃ b, w1.heap.size = b := ⟨_, rfl⟩
  have HBB := hide (show w0.heap.size ≤ b by rw [← hb]; exact (unhide HB1).size)
  rw [hb] at HO ⊢
  clear hown hgr hb HB1
  go_wp2
  go_loopw [26] (fun i wr => ∃ (t : Nat) (rs : List Rr), t ≤ n ∧ i = .int .i64 (t : Int) ∧ Hid (RowsAt wr b rs) ∧ Hid (rs.length = n ∧ ∀ j, j < t → (rs.getD j nilR).2.2 = turnT h R xs j) ∧ Hid (Below w0.heap.size w0 wr))
    (fun i _ => n - (intOf i).toNat)
  case atStart => exact ⟨0, _, by omega, rfl, HO, ⟨by simp, fun j h => absurd h (Nat.not_lt_zero _)⟩, HB2⟩
  case round =>
    obtain ⟨t, rs, ht, rfl, HOr, HRs, HBr⟩ := hrel
    by_cases hlt : t < n
    · obtain ⟨ba, oa, rfl, hlta, hca⟩ := (unhide HL).some (by intro h; have := unhide HN; subst h; simp at this; omega)
      have cx : wr.cell? ⟨ba, oa + t, none⟩ = some (.int .i64 (xs.getD t 0)) := by rw [(unhide HBr).cell (p := ⟨ba, _, none⟩) hlta]; exact hca t (by rw [unhide HN]; exact hlt)
      obtain ⟨x, hx⟩ : ∃ x, xs.getD t 0 = x := ⟨_, rfl⟩
      have HX := hide hx
      have hxin : In64 x := by rw [← hx]; exact (unhide HS).all t
      rw [hx] at cx
      clear hca hx HO HB2
      obtain ⟨P, hP, hP0, hP1⟩ : ∃ P : Int, (R : Int) * (t : Int) = P ∧ 0 ≤ P ∧ P ≤ 4096 := by
        refine ⟨_, rfl, ?_⟩
        have := Nat.mul_le_mul (show R ≤ 64 by omega) (show t ≤ 64 by omega)
        have e : ((R * t : Nat) : Int) = (R : Int) * (t : Int) := by simp
        omega
      have HP := hide hP
      go_wp2_with fail
      refine (alone_any x n h _ (unhide HH) hp0 (by omega)).mono ?_
      rintro e w3 ⟨g, rfl, hg, hc, hb3⟩
      have HB3 := hide (((unhide HBr)).trans (hb3.mono (unhide HBr).size))
      have HR3 := hide ((unhide HOr).below hb3)
      have HC3 := hide hc
      clear hc hb3 hg cx hlta
      go_wp2_with fail
      refine (turn_told _ h (oneL h x) h P _ (unhide HC3).lies (oneL_small h x hxin) (oneL_len h x) (by omega) (by unfold In64; omega)).mono ?_
      rintro e w4 ⟨a4, l4, c4, rfl, h1, h2, h3⟩
      obtain rfl : l4 = h := by rw [← h1, turn_len, oneL_len]
      have HB4 := hide ((unhide HB3).trans (h3.mono (unhide HB3).size))
      have HR4 := hide ((unhide HR3).below h3)
      have HL4 := hide h2
      have hcell := (unhide HR4).cell t (by rw [(unhide HRs).1]; exact hlt)
      have hfree := (unhide HR4).1.free t
      clear h1 h2 h3 HB3 HR3 HC3 HOr HBr
      generalize rowV (rs.getD t nilR) = z at hcell
      go_wp2
      go_roundw
      case rel =>
        refine ⟨t + 1, rs.set t (a4, c4, turnL (oneL l4 x) P), by omega, by simp, ?_, ?_, (unhide HB4).setCell (unhide HBB) _⟩
        · have := (unhide HR4).set t (a4, c4, turnL (oneL l4 x) P) (unhide HL4)
          have e : rowV (a4, c4, turnL (oneL l4 x) P) = .slice a4 l4 c4 := by unfold rowV; rw [turn_len, oneL_len]
          rw [e] at this
          exact this
        · refine ⟨by rw [List.length_set]; exact (unhide HRs).1, fun j hj => ?_⟩
          rw [getDR_set, (unhide HRs).1]
          by_cases c : t = j
          · subst c; rw [if_pos ⟨rfl, hlt⟩]; unfold turnT; rw [unhide HX, unhide HP]
          · rw [if_neg (fun h => c h.1)]; exact (unhide HRs).2 j (by omega)
      case measure => simp [intOf]; omega
    · obtain rfl : t = n := by omega
      go_wp2_with fail
      have e0 : (rs.getD 0 nilR).2.2.length = h := by rw [(unhide HRs).2 0 (by omega), turnT_len]
      refine (add_some b t t rs h _ (unhide HOr).liesR (unhide HRs).1 hn0 (by omega) e0 (by omega)).mono ?_
      rintro e w3 ⟨a3, l3, c3, rfl, h1, h2, h3⟩
      have es : sumR rs = spinS h k xs := by
        have hall : ∀ r ∈ rs, r.2.2.length = (rs.getD 0 nilR).2.2.length := by
          intro r hr
          obtain ⟨i, hi, rfl⟩ := List.getElem_of_mem hr
          have := (unhide HRs).2 i (by rw [← (unhide HRs).1]; exact hi)
          rw [List.getD_eq_getElem?_getD, List.getElem?_eq_getElem hi, Option.getD_some] at this
          rw [this, turnT_len, e0]
        unfold sumR
        rw [if_pos hall, e0]
        have := sum_rows h k R xs rs t hp0 (unhide HS) (unhide HRR) (unhide HRs).1 (unhide HRs).2 t (Nat.le_refl _)
        rw [List.take_of_length_le (by unfold conts; rw [List.length_map, (unhide HRs).1]; exact Nat.le_refl _), spinTo_all h k xs t (unhide HN)] at this
        exact this
      rw [es] at h1 h2
      have H1 := hide h1
      have H2 := hide h2
      have H3 := hide ((unhide HBr).trans (h3.mono (unhide HBr).size))
      clear h1 h2 h3 es e0
      go_wp2
      go_ret
      exact ⟨a3, l3, c3, rfl, unhide H1, unhide H2, unhide H3⟩

theorem fsum_no (a : Option Addr) (cap n : Nat) (k : Int) (w : World) (hM : ¬ mayF n) :
    Calls Tryd.prog 13 #[.int .i64 k, .slice a n cap] w fun e w' => e = .returned (.slice none 0 0) ∧ w' = w := by
  have HM := hide hM
  clear hM
  go_enter Tryd.func13, Tryd.ntmps13
  go_wp2_with fail
  refine (fmay_no n _ (unhide HM)).mono ?_
  rintro e w0 ⟨rfl, rfl⟩
  go_wp2
  go_ret
  exact ⟨rfl, rfl⟩
end Go.Proofs.YtafbdkebokhnlaaDoor
