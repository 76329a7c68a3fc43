/- Rows of cosines: the code's, and the document's. -/
import Derived.Test.YtednmdammpkoeaaDoorDctLeaf
namespace Go.Proofs.YtednmdammpkoeaaDoor
open Go.RowKit
set_option linter.unusedVariables false

/-- Row(k, bands), of any numbers. -/
def dctRowI (k b : Int) : List Int := if (b = 4 ∨ b = 8 ∨ b = 16) ∧ 0 ≤ k ∧ k < b then cosRow b.toNat k.toNat else []
theorem dctRowI_yes (n k : Nat) (h : mayD n) (hk : k < n) : dctRowI (k : Int) (n : Int) = cosRow n k := by
  unfold dctRowI; unfold mayD at h; rw [if_pos (by omega)]; simp
theorem dctRowI_no (k b : Int) (h : ¬ ((b = 4 ∨ b = 8 ∨ b = 16) ∧ 0 ≤ k ∧ k < b)) : dctRowI k b = [] := by unfold dctRowI; rw [if_neg h]
theorem cosRow_len (n k : Nat) : (cosRow n k).length = n := mkL_len _ _

theorem maybe_any (b : Int) (w : World) :
    Calls Tryd.prog 20 #[.int .i64 b] w fun e w' => e = .returned (.bool (decide (b = 4 ∨ b = 8 ∨ b = 16))) ∧ w' = w := by
  by_cases h : b = 4 ∨ b = 8 ∨ b = 16
  · have HV := hide (show decide (b = 4 ∨ b = 8 ∨ b = 16) = true from decide_eq_true h)
    rcases h with rfl | rfl | rfl
    all_goals (
      go_enter Tryd.func20, Tryd.ntmps20
      go_wp2_with fail
      go_ret
      exact ⟨rfl, rfl⟩)
  · have HV := hide (show decide (b = 4 ∨ b = 8 ∨ b = 16) = false from decide_eq_false h)
    have h1 : ¬ b = 4 := by omega
    have h2 : ¬ b = 8 := by omega
    have h3 : ¬ b = 16 := by omega
    clear h
    go_enter Tryd.func20, Tryd.ntmps20
    go_wp2_with fail
    go_ret
    exact ⟨by rw [unhide HV]; rfl, rfl⟩
theorem may_any (b : Int) (w : World) :
    Calls Tryd.prog 27 #[.int .i64 b] w fun e w' => e = .returned (.bool (decide (b = 4 ∨ b = 8 ∨ b = 16))) ∧ w' = w := by
  by_cases h : b = 4 ∨ b = 8 ∨ b = 16
  · have HV := hide (show decide (b = 4 ∨ b = 8 ∨ b = 16) = true from decide_eq_true h)
    rcases h with rfl | rfl | rfl
    all_goals (
      go_enter Tryd.func27, Tryd.ntmps27
      go_wp2_with fail
      go_ret
      exact ⟨rfl, rfl⟩)
  · have HV := hide (show decide (b = 4 ∨ b = 8 ∨ b = 16) = false from decide_eq_false h)
    have h1 : ¬ b = 4 := by omega
    have h2 : ¬ b = 8 := by omega
    have h3 : ¬ b = 16 := by omega
    clear h
    go_enter Tryd.func27, Tryd.ntmps27
    go_wp2_with fail
    go_ret
    exact ⟨by rw [unhide HV]; show Ending.returned (.bool (b == 4 || b == 8 || b == 16)) = _; simp [h1, h2, h3], rfl⟩

/-- The place of a cosine, as the code tells it. -/
theorem place_code (n k m : Nat) (h : mayD n) : k * (2 * m + 1) * (16 / n) = k * (2 * m + 1) * 16 / n := by
  generalize k * (2 * m + 1) = x
  rcases h with rfl | rfl | rfl <;> omega
theorem place_bd (n k m : Nat) (h : mayD n) (hk : k < n) (hm : m < n) : k * (2 * m + 1) ≤ 500 := by
  have h16 := (mayD_le h).2
  exact Nat.le_trans (Nat.mul_le_mul (show k ≤ 15 by omega) (show 2 * m + 1 ≤ 31 by omega)) (by decide)

theorem place_int (n k m : Nat) (h : mayD n) (hk : k < n) (hm : m < n) : wrap64 (wrap64 ((k : Int) * (2 * (m : Int) + 1)) * (16 / (n : Int))) = ((k * (2 * m + 1) * 16 / n : Nat) : Int) := by
  have hb := place_bd n k m h hk hm
  have e : (k : Int) * (2 * (m : Int) + 1) = ((k * (2 * m + 1) : Nat) : Int) := by push_cast; rfl
  rw [e]
  generalize k * (2 * m + 1) = x at *
  clear e
  unfold wrap64
  rcases h with rfl | rfl | rfl <;> omega

set_option maxRecDepth 100000 in
theorem row_yes (n k : Nat) (w : World) (h : mayD n) (hk : k < n) (hq : Quar w) :
    Calls Tryd.prog 14 #[.int .i64 (k : Int), .int .i64 (n : Int)] w (Told (cosRow n k) w) := by
  obtain ⟨i0, hi, hz0, hz1, hz2⟩ := info_parts Tryd.info3
  have h16 := (mayD_le h).2
  have HM := hide h
  have HD := hide (show decide ((n : Int) = 4 ∨ (n : Int) = 8 ∨ (n : Int) = 16) = true from decide_eq_true (by unfold mayD at h; omega))
  have HQ := hide hq
  have hkn : (k : Int) < (n : Int) := by omega
  clear h hq
  go_enter Tryd.func14, Tryd.ntmps14
  go_wp2_with fail
  refine (maybe_any (n : Int) w).mono ?_
  rintro e w0 ⟨rfl, rfl⟩
  rw [unhide HD]
  go_wp2_with (at_make; refine wpList_make_full _ rfl _ _ 22 rfl w0.heap.size 3 i0 (.int .i64 0) 1 Tryd.underlying22 hi hz0 hz1 _ _ _ _ n rfl rfl rfl rfl ?m1 ?m2 ?m3 ?_)
  case m1 => rw [hz2]; omega
  case m2 => unfold maxLen; omega
  case m3 => exact Nat.le_refl _
  intro w1 hown hgr
  rw [ints_zero, fill_zero n (rowAt n k)] at hown
  have HO := hide (own_cells hown)
  have HB := hide ((Below.refl w0.heap.size w0).grown hgr (Nat.le_refl _) (fun _ h => by cases h))
  clear hown hgr
  go_wp2
  go_loopw [23] (fun i wr => ∃ m : Nat, m ≤ n ∧ i = .int .i64 (m : Int) ∧ Hid (Cells wr w0.heap.size (ints (fillL n (rowAt n k) m))) ∧ Hid (Below w0.heap.size w0 wr))
    (fun i _ => n - (intOf i).toNat)
  case atStart => exact ⟨0, by omega, rfl, HO, HB⟩
  case round =>
    obtain ⟨m, hm, rfl, HOr, HBr⟩ := hrel
    by_cases hlt : m < n
    · obtain ⟨z, hz⟩ : ∃ z, rowAt n k m = z := ⟨_, rfl⟩
      have HX := hide (fill_set n (rowAt n k) m z hlt hz)
      have hp := place_int n k m (unhide HM) hk hlt
      obtain ⟨p, hpp⟩ : ∃ p : Int, ((k * (2 * m + 1) * 16 / n : Nat) : Int) = p := ⟨_, rfl⟩
      rw [hpp] at hp
      have HC : Hid (∀ w, Quar w → Calls Tryd.prog 21 #[.int .i64 p] w fun e w' => e = .returned (.int .i64 z) ∧ Below w.heap.size w w') := fun w hq => by
        rw [← hz, show rowAt n k m = cosI p by rw [← hpp]; rfl]
        refine cos_any p w ?_ hq
        have hb := place_bd n k m (unhide HM) hk hlt
        have h16' := unhide HM
        rw [← hpp]
        generalize k * (2 * m + 1) = x at *
        unfold In64
        rcases h16' with rfl | rfl | rfl <;> omega
      have hq := (unhide HQ).below (unhide HBr)
      clear hz hpp HO HB
      go_wp2_with fail
      refine (unhide HC _ hq).mono ?_
      rintro e w2 ⟨rfl, hb2⟩
      have HB2 := hide ((unhide HBr).trans (hb2.mono (unhide HBr).size))
      have HO2 := hide ((unhide HOr).below hb2)
      have hcell := (unhide HO2).cell m _ (ints_at _ m (by rw [fill_len]; exact hlt))
      have hfree := (unhide HO2).free m
      clear hb2 HOr HBr
      go_wp2
      go_roundw
      case rel =>
        refine ⟨m + 1, by omega, by simp, ?_, (unhide HB2).setCell (Nat.le_refl _) _⟩
        have := (unhide HO2).set m (.int .i64 z)
        rw [ints_set, unhide HX] at this
        exact this
      case measure => simp [intOf]; omega
    · obtain rfl : m = n := by omega
      rw [fill_all] at HOr
      have HL5 := hide (unhide HOr).lies
      clear HOr HO
      go_wp2
      go_ret
      exact ⟨_, _, _, rfl, cosRow_len m k, unhide HL5, unhide HBr⟩
theorem row_no (k b : Int) (w : World) (h : ¬ ((b = 4 ∨ b = 8 ∨ b = 16) ∧ 0 ≤ k ∧ k < b)) :
    Calls Tryd.prog 14 #[.int .i64 k, .int .i64 b] w (Told [] w) := by
  obtain ⟨d, hd⟩ : ∃ d, decide (b = 4 ∨ b = 8 ∨ b = 16) = d := ⟨_, rfl⟩
  have HD := hide hd
  go_enter Tryd.func14, Tryd.ntmps14
  go_wp2_with fail
  refine (maybe_any b w).mono ?_
  rintro e w0 ⟨rfl, rfl⟩
  rw [unhide HD]
  cases d
  · clear h hd
    go_wp2
    go_ret
    exact ⟨none, 0, 0, rfl, rfl, .inl rfl, Below.refl _ _⟩
  · have hb : b = 4 ∨ b = 8 ∨ b = 16 := of_decide_eq_true hd
    clear hd
    by_cases c : k < 0
    · go_wp2
      go_ret
      exact ⟨none, 0, 0, rfl, rfl, .inl rfl, Below.refl _ _⟩
    · have c2 : b ≤ k := by omega
      clear h hb
      go_wp2
      go_ret
      exact ⟨none, 0, 0, rfl, rfl, .inl rfl, Below.refl _ _⟩
theorem row_any (k b : Int) (w : World) (hq : Quar w) :
    Calls Tryd.prog 14 #[.int .i64 k, .int .i64 b] w (Told (dctRowI k b) w) := by
  by_cases h : (b = 4 ∨ b = 8 ∨ b = 16) ∧ 0 ≤ k ∧ k < b
  · obtain ⟨n, rfl⟩ : ∃ n : Nat, b = (n : Int) := ⟨b.toNat, by omega⟩
    obtain ⟨m, rfl⟩ : ∃ m : Nat, k = (m : Int) := ⟨k.toNat, by omega⟩
    rw [dctRowI_yes n m (by unfold mayD; omega) (by omega)]
    exact row_yes n m w (by unfold mayD; omega) (by omega) hq
  · rw [dctRowI_no k b h]
    exact row_no k b w h

set_option maxRecDepth 100000 in
theorem rrow_yes (n k : Nat) (w : World) (h : mayD n) (hk : k < n) :
    Calls Tryd.prog 18 #[.int .i64 (k : Int), .int .i64 (n : Int)] w (Told (cosRow n k) w) := by
  obtain ⟨i0, hi, hz0, hz1, hz2⟩ := info_parts Tryd.info3
  have HI : Hid (Tryd.prog.info? 3 = some i0 ∧ i0.zero = some (.int .i64 0) ∧ i0.size = 1 ∧ i0.bytes = 8) := ⟨hi, hz0, hz1, hz2⟩
  have h16 := (mayD_le h).2
  have HM := hide h
  have HD := hide (show decide ((n : Int) = 4 ∨ (n : Int) = 8 ∨ (n : Int) = 16) = true from decide_eq_true (by unfold mayD at h; omega))
  have hkn : (k : Int) < (n : Int) := by omega
  clear h hi hz0 hz1 hz2
  go_enter Tryd.func18, Tryd.ntmps18
  go_wp2_with fail
  refine (may_any (n : Int) w).mono ?_
  rintro e w0 ⟨rfl, rfl⟩
  rw [unhide HD]
  go_wp2
  generalize decide ((k : Int) < 0) = d1
  generalize decide (n ≤ k) = d2
  go_loopw [7, 6] (fun i v wr => ∃ m : Nat, m ≤ n ∧ i = .int .i64 (m : Int) ∧ Hid (wr.ownsRow w0.heap.size 3 1 v m (ints (mkL m (rowAt n k)))) ∧ Hid (Below w0.heap.size w0 wr))
    (fun i _ _ => n - (intOf i).toNat)
  case atStart => exact ⟨0, by omega, rfl, World.ownsRow_nil _ _ _ _, Below.refl _ _⟩
  case round =>
    obtain ⟨m, hm, rfl, HOr, HBr⟩ := hrel
    by_cases hlt : m < n
    · obtain ⟨z, hz⟩ : ∃ z, rowAt n k m = z := ⟨_, rfl⟩
      have HX := hide (mk_step (rowAt n k) m z hz)
      obtain ⟨m1, hm1⟩ : ∃ m1, m + 1 = m1 := ⟨_, rfl⟩
      have HM1 := hide hm1
      rw [hm1] at HX
      obtain ⟨LL, hLL⟩ : ∃ LL, ints (mkL m (rowAt n k)) = LL := ⟨_, rfl⟩
      rw [hLL] at HOr HX
      have hown0 := unhide HOr
      have hb := place_bd n k m (unhide HM) hk hlt
      obtain ⟨x, hx⟩ : ∃ x, k * (2 * m + 1) = x := ⟨_, rfl⟩
      have e : (k : Int) * (2 * (m : Int) + 1) = (x : Int) := by rw [← hx]; push_cast; rfl
      rw [hx] at hb
      have HC : Hid (∀ w p, p = ((x * 16 / n : Nat) : Int) → Calls Tryd.prog 28 #[.int .i64 p] w fun e w' => e = .returned (.int .i64 z) ∧ Below w.heap.size w w') := fun w p hp => by
        subst hp
        rw [← hz, show rowAt n k m = cosI ((x * 16 / n : Nat) : Int) by rw [← hx]; rfl]
        refine rcos_any _ w ?_
        have h16' := unhide HM
        unfold In64
        rcases h16' with rfl | rfl | rfl <;> omega
      clear hLL hm1 hz hx
      go_wp2_with fail
      refine (unhide HC _ _ (by push_cast; rfl)).mono ?_
      rintro e w2 ⟨rfl, hb2⟩
      have hown2 := owns_under hown0 hb2
      have HB2 := hide ((unhide HBr).trans (hb2.mono (unhide HBr).size))
      clear hb2 hown0 HOr HBr
      go_wp2_with (at_builtin; refine wpList_append_own _ rfl _ _ 22 rfl w0.heap.size 3 i0 (.int .i64 0) 1 8 Tryd.underlying22 (unhide HI).1 (unhide HI).2.1 (unhide HI).2.2.1 (unhide HI).2.2.2 rfl (by decide) _ _ _ rfl (hown2.alloc _) ⟨w2.heap.size, 0, none⟩ 1 1 [.int .i64 z] rfl rfl ?d1 ?d2 ?d3 ?d4 ?d5 ?_)
      case d1 => exact cell_one_new _ _ _
      case d2 => exact ints_one [z]
      case d3 => unfold maxLen; omega
      case d4 => omega
      case d5 => have := (unhide HB2).size; simp; omega
      intro v4 w5 hown4 hg4 _
      have hgr : ∀ q, Value.ownBlock _ = some q → w0.heap.size ≤ q := fun q hq => (hown2.lt q hq).1
      have HB4 := hide (((unhide HB2).alloc (unhide HB2).size _).grown hg4 (by have := (unhide HB2).size; simp; omega) hgr)
      rw [unhide HM1, ← unhide HX] at hown4
      have HOwn4 := hide hown4
      clear hown4 hg4 hgr hown2
      go_wp2
      go_roundw
      case rel => exact ⟨m1, by have := unhide HM1; omega, by have := unhide HM1; simp; omega, HOwn4, HB4⟩
      case measure => have := unhide HM1; simp [intOf]; omega
    · obtain rfl : m = n := by omega
      obtain ⟨a5, c5, rfl, hl5, hlen5⟩ := owned_lies (unhide HOr)
      have HL5 := hide hl5
      clear hl5 hlen5 HOr
      go_wp2
      go_ret
      exact ⟨_, _, _, rfl, by rw [cosRow_len, mkL_len], unhide HL5, unhide HBr⟩
theorem rrow_no (k b : Int) (w : World) (h : ¬ ((b = 4 ∨ b = 8 ∨ b = 16) ∧ 0 ≤ k ∧ k < b)) :
    Calls Tryd.prog 18 #[.int .i64 k, .int .i64 b] w (Told [] w) := by
  obtain ⟨d, hd⟩ : ∃ d, decide (b = 4 ∨ b = 8 ∨ b = 16) = d := ⟨_, rfl⟩
  have HD := hide hd
  go_enter Tryd.func18, Tryd.ntmps18
  go_wp2_with fail
  refine (may_any b w).mono ?_
  rintro e w0 ⟨rfl, rfl⟩
  rw [unhide HD]
  cases d
  · clear h hd
    go_wp2
    go_ret
    exact ⟨none, 0, 0, rfl, rfl, .inl rfl, Below.refl _ _⟩
  · have hb : b = 4 ∨ b = 8 ∨ b = 16 := of_decide_eq_true hd
    clear hd
    by_cases c : k < 0
    · go_wp2
      go_ret
      exact ⟨none, 0, 0, rfl, rfl, .inl rfl, Below.refl _ _⟩
    · have c2 : b ≤ k := by omega
      clear h hb
      go_wp2
      go_ret
      exact ⟨none, 0, 0, rfl, rfl, .inl rfl, Below.refl _ _⟩
theorem rrow_any (k b : Int) (w : World) :
    Calls Tryd.prog 18 #[.int .i64 k, .int .i64 b] w (Told (dctRowI k b) w) := by
  by_cases h : (b = 4 ∨ b = 8 ∨ b = 16) ∧ 0 ≤ k ∧ k < b
  · obtain ⟨n, rfl⟩ : ∃ n : Nat, b = (n : Int) := ⟨b.toNat, by omega⟩
    obtain ⟨m, rfl⟩ : ∃ m : Nat, k = (m : Int) := ⟨k.toNat, by omega⟩
    rw [dctRowI_yes n m (by unfold mayD; omega) (by omega)]
    exact rrow_yes n m w (by unfold mayD; omega) (by omega)
  · rw [dctRowI_no k b h]
    exact rrow_no k b w h
end Go.Proofs.YtednmdammpkoeaaDoor
