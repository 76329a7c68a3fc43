/- Rows of a size that may be. -/
import Derived.Test.YtcnpbkgnoeoccaaDoorRpart
import Derived.Test.YtcnpbkgnoeoccaaDoorRef
namespace Go.Proofs.YtcnpbkgnoeoccaaDoor
open Go.RowKit
set_option linter.unusedVariables false

def sizedL (xs : List Int) (h : Nat) : List Int := mkL h fun i => xs.getD i 0
theorem sized_len (xs : List Int) (h : Nat) : (sizedL xs h).length = h := mkL_len _ _
theorem sized_small (xs : List Int) (h : Nat) (hs : Small xs) : Small (sizedL xs h) := small_mk _ _ fun i _ => hs.all i
def sizTo (xs : List Int) (h j : Nat) : List Int := mkL h fun i => if i < j then xs.getD i 0 else 0
theorem sizTo_len (xs : List Int) (h j : Nat) : (sizTo xs h j).length = h := mkL_len _ _
theorem sizTo_zero (xs : List Int) (h : Nat) : sizTo xs h 0 = List.replicate h 0 := mkL_eq _ _ _ (by simp) fun i hi => by rw [if_neg (by omega), zero_at]
theorem sizTo_set (xs : List Int) (h j : Nat) (hj : j < h) : (sizTo xs h j).set j (xs.getD j 0) = sizTo xs h (j + 1) := by
  refine list_same (by rw [List.length_set, sizTo_len, sizTo_len]) fun i hi => ?_
  rw [List.length_set, sizTo_len] at hi
  rw [getD_set, sizTo_len]
  by_cases c : j = i
  · subst c; rw [if_pos ⟨rfl, hj⟩]; unfold sizTo; rw [mkL_at _ _ _ hj, if_pos (by omega)]
  · rw [if_neg (fun h => c h.1)]; unfold sizTo; rw [mkL_at _ _ _ hi, mkL_at _ _ _ hi]
    by_cases d : i < j
    · rw [if_pos d, if_pos (by omega)]
    · rw [if_neg d, if_neg (by omega)]
theorem sizTo_all (xs : List Int) (h j : Nat) (hj : h ≤ j ∨ xs.length ≤ j) : sizTo xs h j = sizedL xs h := by
  unfold sizTo sizedL
  refine mkL_congr _ _ _ fun i hi => ?_
  by_cases c : i < j
  · rw [if_pos c]
  · rw [if_neg c, getD_over xs i (by omega)]
theorem rest6 (x : Int) (hx : In64 x) : ∃ r : Nat, r < 6 ∧ (x.tmod 6 + 6).tmod 6 = (r : Int) ∧ 0 ≤ x.tmod 6 + 6 ∧ x.tmod 6 + 6 < 12 := by
  have h1 := Int.tmod_lt_of_pos x (b := 6) (by decide)
  have h2 := Int.lt_tmod_of_pos x (b := 6) (by decide)
  refine ⟨((x.tmod 6 + 6) % 6).toNat, by omega, ?_, by omega, by omega⟩
  rw [Int.tmod_eq_emod_of_nonneg (by omega)]; omega

set_option maxRecDepth 100000 in
theorem sized_all (x : Int) (hx : In64 x) : ∃ h, mayN h ∧ ∀ (a : Option Addr) (len cap : Nat) (xs : List Int) (w' : World), Lies w' a xs → xs.length = len →
    Calls Tryd.prog 9 #[.slice a len cap, .int .i64 x] w' fun e w'' => ∃ g, e = .returned (.slice (some ⟨g, 0, none⟩) h h) ∧ w'.heap.size ≤ g ∧ Cells w'' g (ints (sizedL xs h)) ∧ Below w'.heap.size w' w'' := by
  obtain ⟨i0, hi, hz0, hz1, hz2⟩ := info_parts Tryd.info3
  obtain ⟨r, hr, hr1, hr2, hr3⟩ := rest6 x hx
  obtain ⟨t, ht⟩ : ∃ t, x.tmod 6 = t := ⟨_, rfl⟩
  rw [ht] at hr1 hr2 hr3
  obtain ⟨h, hh, hh2⟩ : ∃ h : Nat, 2 ^ r = h ∧ mayN h := by
    have : ∀ r, r < 6 → mayN (2 ^ r) := by decide
    exact ⟨_, rfl, this r hr⟩
  refine ⟨h, hh2, fun a len cap xs w' hl hn => ?_⟩
  have hm : h ≤ 32 := by unfold mayN at hh2; omega
  have hz : wrap64 (2 ^ min (IntKind.u64.wrap ((wrap64 (x.tmod 6 + 6)).tmod 6)).toNat 64) = (h : Int) := by
    rw [ht, w64_in (show In64 (t + 6) from ⟨by omega, by omega⟩), hr1, IntKind.wrap_u64]
    have e : ((r : Int) % 18446744073709551616).toNat = r := by omega
    rw [e, Nat.min_eq_left (by omega), show ((2 : Int) ^ r) = (h : Int) by rw [← hh]; simp, w64_in ⟨by omega, by omega⟩]
  have HZ := hide hz
  have HL := hide hl
  have HN := hide hn
  clear hz hl hn hh2 hr1 ht hh hr2 hr3 hr
  go_enter Tryd.func9, Tryd.ntmps9
  go_wp2_with (at_make; rw [unhide HZ]; refine wpList_make_full _ rfl _ _ 22 rfl w'.heap.size 3 i0 (.int .i64 0) 1 Tryd.underlying22 hi hz0 hz1 _ _ _ _ h rfl rfl rfl rfl ?m1 ?m2 ?m3 ?_)
  case m1 => rw [hz2]; omega
  case m2 => unfold maxLen; omega
  case m3 => exact Nat.le_refl _
  intro w1 hown hgr
  rw [ints_zero] at hown
  have HO := hide (own_cells hown)
  have HB := hide ((Below.refl w'.heap.size w').grown hgr (Nat.le_refl _) (fun _ h => by cases h))
  clear hown hgr
  go_wp2
  rw [← sizTo_zero xs h] at HO
  go_loopw [6] (fun i wr => ∃ j : Nat, j ≤ h ∧ i = .int .i64 (j : Int) ∧ Hid (Cells wr w'.heap.size (ints (sizTo xs h j))) ∧ Hid (Below w'.heap.size w' wr))
    (fun i _ => h - (intOf i).toNat)
  case atStart => exact ⟨0, by omega, rfl, HO, HB⟩
  case round =>
    obtain ⟨j, hj, rfl, HOr, HBr⟩ := hrel
    by_cases c : j < h ∧ j < len
    · obtain ⟨c1, c2⟩ := c
      obtain ⟨ba, oa, rfl, hlta, hca⟩ := (unhide HL).some (by intro h; have := unhide HN; subst h; simp at this; omega)
      have cx : wr.cell? ⟨ba, oa + j, none⟩ = some (.int .i64 (xs.getD j 0)) := by rw [(unhide HBr).cell (p := ⟨ba, _, none⟩) hlta]; exact hca j (by rw [unhide HN]; exact c2)
      have hcell := (unhide HOr).cell j _ (ints_at _ j (by rw [sizTo_len]; exact c1))
      have hfree := (unhide HOr).free j
      have HSet := hide (sizTo_set xs h j c1)
      generalize xs.getD j 0 = y at cx HSet
      generalize (sizTo xs h j).getD j 0 = z at hcell
      clear hca HO HB
      go_wp2
      go_roundw
      case rel =>
        refine ⟨j + 1, by omega, by simp, ?_, (unhide HBr).setCell (Nat.le_refl _) _⟩
        have := (unhide HOr).set j (.int .i64 y)
        rw [ints_set, unhide HSet] at this
        exact this
      case measure => simp [intOf]; omega
    · have HE := hide (sizTo_all xs h j (by rw [unhide HN]; omega))
      rw [unhide HE] at HOr
      clear HO HB
      by_cases c1 : j < h
      · have c2 : ¬ j < len := fun e => c ⟨c1, e⟩
        go_wp2
        go_ret
        exact ⟨_, rfl, Nat.le_refl _, unhide HOr, unhide HBr⟩
      · go_wp2
        go_ret
        exact ⟨_, rfl, Nat.le_refl _, unhide HOr, unhide HBr⟩
theorem sized_any (a : Option Addr) (len cap : Nat) (xs : List Int) (x : Int) (w : World) (hl : Lies w a xs) (hn : xs.length = len) (hx : In64 x) :
    ∃ h, mayN h ∧ ∀ w', Below w.heap.size w w' → Calls Tryd.prog 9 #[.slice a len cap, .int .i64 x] w' fun e w'' => ∃ g, e = .returned (.slice (some ⟨g, 0, none⟩) h h) ∧ w'.heap.size ≤ g ∧ Cells w'' g (ints (sizedL xs h)) ∧ Below w'.heap.size w' w'' := by
  obtain ⟨h, hh, hc⟩ := sized_all x hx
  exact ⟨h, hh, fun w' hb => hc a len cap xs w' (hl.below hb) hn⟩
end Go.Proofs.YtcnpbkgnoeoccaaDoor
