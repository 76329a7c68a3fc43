/- Samples of a length that may be; the chapter's examples. -/
import Derived.Test.YtafbdkebokhnlaaDoorBins
namespace Go.Proofs.YtafbdkebokhnlaaDoor
open Go.RowKit
set_option linter.unusedVariables false

theorem rest6 (x : Int) (hx : In64 x) : ∃ r : Nat, r < 6 ∧ (x.tmod 6 + 6).tmod 6 = (r : Int) ∧ 0 ≤ x.tmod 6 + 6 ∧ x.tmod 6 + 6 < 12 := by
  have h1 := Int.tmod_lt_of_pos x (b := 6) (by decide)
  have h2 := Int.lt_tmod_of_pos x (b := 6) (by decide)
  refine ⟨((x.tmod 6 + 6) % 6).toNat, by omega, ?_, by omega, by omega⟩
  rw [Int.tmod_eq_emod_of_nonneg (by omega)]; omega


set_option maxRecDepth 100000 in
theorem sized_at (x : Int) (hx : In64 x) (r h : Nat) (hr : r < 6) (hr1 : (x.tmod 6 + 6).tmod 6 = (r : Int)) (hh : 2 ^ r = h) (a : Option Addr) (len cap : Nat) (xs : List Int) (w' : World) (hl : Lies w' a xs) (hn : xs.length = len) :
    Calls Tryd.prog 9 #[.slice a len cap, .int .i64 x] w' fun e w'' => ∃ g, e = .returned (.slice (some ⟨g, 0, none⟩) (2 * h) (2 * h)) ∧ w'.heap.size ≤ g ∧ Cells w'' g (ints (sizedL xs (2 * h))) ∧ Below w'.heap.size w' w'' := by
  obtain ⟨i0, hi, hz0, hz1, hz2⟩ := info_parts Tryd.info3
  have hr2 := Int.tmod_lt_of_pos x (b := 6) (by decide)
  have hr3 := Int.lt_tmod_of_pos x (b := 6) (by decide)
  obtain ⟨t, ht⟩ : ∃ t, x.tmod 6 = t := ⟨_, rfl⟩
  rw [ht] at hr1 hr2 hr3
  have hm : h ≤ 32 := by
    have : ∀ r, r < 6 → 2 ^ r ≤ 32 := by decide
    rw [← hh]; exact this r hr
  have HL := hide hl
  have HN := hide hn
  have HH := hide hh
  clear hl hn hh
  go_enter Tryd.func9, Tryd.ntmps9
  obtain ⟨n, hn2⟩ : ∃ n, 2 * h = n := ⟨_, rfl⟩
  have HZ := hide (show wrap64 (2 * 2 ^ r) = (n : Int) by
    have e : (2 : Int) ^ r = (h : Int) := by rw [← unhide HH]; simp
    rw [e, w64_in ⟨by omega, by omega⟩]; omega)
  have HN2 := hide hn2
  have hm2 : n ≤ 64 := by omega
  clear hn2 hm
  go_wp2_with (at_make; rw [unhide HZ]; refine wpList_make_full _ rfl _ _ 22 rfl w'.heap.size 3 i0 (.int .i64 0) 1 Tryd.underlying22 hi hz0 hz1 _ _ _ _ n rfl rfl rfl rfl ?m1 ?m2 ?m3 ?_)
  case m1 => rw [hz2]; omega
  case m2 => unfold maxLen; omega
  case m3 => exact Nat.le_refl _
  intro w1 hown hgr
  rw [ints_zero] at hown
  have HO := hide (own_cells hown)
  have HB := hide ((Below.refl w'.heap.size w').grown hgr (Nat.le_refl _) (fun _ h => by cases h))
  clear hown hgr
  go_wp2
  rw [← sizTo_zero xs n] at HO
  go_loopw [6] (fun i wr => ∃ j : Nat, j ≤ n ∧ i = .int .i64 (j : Int) ∧ Hid (Cells wr w'.heap.size (ints (sizTo xs n j))) ∧ Hid (Below w'.heap.size w' wr))
    (fun i _ => n - (intOf i).toNat)
  case atStart => exact ⟨0, by omega, rfl, HO, HB⟩
  case round =>
    obtain ⟨j, hj, rfl, HOr, HBr⟩ := hrel
    by_cases c : j < n ∧ j < len
    · obtain ⟨c1, c2⟩ := c
      obtain ⟨ba, oa, rfl, hlta, hca⟩ := (unhide HL).some (by intro h; have := unhide HN; subst h; simp at this; omega)
      have cx : wr.cell? ⟨ba, oa + j, none⟩ = some (.int .i64 (xs.getD j 0)) := by rw [(unhide HBr).cell (p := ⟨ba, _, none⟩) hlta]; exact hca j (by rw [unhide HN]; exact c2)
      have hcell := (unhide HOr).cell j _ (ints_at _ j (by rw [sizTo_len]; exact c1))
      have hfree := (unhide HOr).free j
      have HSet := hide (sizTo_set xs n j c1)
      generalize xs.getD j 0 = y at cx HSet
      generalize (sizTo xs n j).getD j 0 = z at hcell
      clear hca HO HB
      go_wp2
      go_roundw
      case rel =>
        refine ⟨j + 1, by omega, by simp, ?_, (unhide HBr).setCell (Nat.le_refl _) _⟩
        have := (unhide HOr).set j (.int .i64 y)
        rw [ints_set, unhide HSet] at this
        exact this
      case measure => simp [intOf]; omega
    · have HE := hide (sizTo_all xs n j (by rw [unhide HN]; omega))
      rw [unhide HE] at HOr
      clear HO HB
      by_cases c1 : j < n
      · have c2 : ¬ j < len := fun e => c ⟨c1, e⟩
        go_wp2
        go_ret
        refine ⟨_, by rw [unhide HN2]; rfl, Nat.le_refl _, ?_, unhide HBr⟩
        rw [unhide HN2]; exact unhide HOr
      · go_wp2
        go_ret
        refine ⟨_, by rw [unhide HN2]; rfl, Nat.le_refl _, ?_, unhide HBr⟩
        rw [unhide HN2]; exact unhide HOr
theorem sized_any (x : Int) (hx : In64 x) : ∃ h, mayN h ∧ ∀ (a : Option Addr) (len cap : Nat) (xs : List Int) (w' : World), Lies w' a xs → xs.length = len →
    Calls Tryd.prog 9 #[.slice a len cap, .int .i64 x] w' fun e w'' => ∃ g, e = .returned (.slice (some ⟨g, 0, none⟩) (2 * h) (2 * h)) ∧ w'.heap.size ≤ g ∧ Cells w'' g (ints (sizedL xs (2 * h))) ∧ Below w'.heap.size w' w'' := by
  obtain ⟨r, hr, hr1, _, _⟩ := rest6 x hx
  have hp : ∀ r, r < 6 → mayN (2 ^ r) := by decide
  exact ⟨2 ^ r, hp r hr, fun a len cap xs w' hl hn => sized_at x hx r (2 ^ r) hr hr1 rfl a len cap xs w' hl hn⟩
/-- A length up to 32. -/
theorem sized_five (y : Int) (h0 : 0 ≤ y) (h5 : y < 5) : ∃ h, mayN h ∧ h ≤ 16 ∧ ∀ (a : Option Addr) (len cap : Nat) (xs : List Int) (w' : World), Lies w' a xs → xs.length = len →
    Calls Tryd.prog 9 #[.slice a len cap, .int .i64 y] w' fun e w'' => ∃ g, e = .returned (.slice (some ⟨g, 0, none⟩) (2 * h) (2 * h)) ∧ w'.heap.size ≤ g ∧ Cells w'' g (ints (sizedL xs (2 * h))) ∧ Below w'.heap.size w' w'' := by
  obtain ⟨r, rfl⟩ : ∃ r : Nat, y = r := ⟨y.toNat, by omega⟩
  have hr : r < 5 := by omega
  have hp : ∀ r, r < 5 → mayN (2 ^ r) ∧ 2 ^ r ≤ 16 := by decide
  refine ⟨2 ^ r, (hp r hr).1, (hp r hr).2, fun a len cap xs w' hl hn => sized_at r (by unfold In64; omega) r (2 ^ r) (by omega) ?_ rfl a len cap xs w' hl hn⟩
  have e : (r : Int).tmod 6 = r := by rw [Int.tmod_eq_emod_of_nonneg (by omega)]; omega
  rw [e, Int.tmod_eq_emod_of_nonneg (by omega)]; omega
end Go.Proofs.YtafbdkebokhnlaaDoor
