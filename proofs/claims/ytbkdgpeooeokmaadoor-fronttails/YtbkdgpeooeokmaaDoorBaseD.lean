/- Contracts of the layers below over this seat, and the mathematics of fronts. Family D. -/
import Derived.Test.YtbkdgpeooeokmaaDoorBase0
import Derived.WalkKit
import Derived.WalkSpells
import Derived.WalkLawsBesides
import Derived.Deep.RegionWith
import Derived.Laws.AppendOwnNone
import Derived.Deep.RegionHeld3
import Derived.Deep.AppendLies
import Derived.Lib.BitFns
import Derived.Lib.Small
import Derived.Lib.Walk
import Derived.Laws.IdiomStrings
import Derived.Orders
import Derived.Deep.LoopGhost
import Derived.Laws.CopyOwn
import Derived.Deep.OwnRows
import Derived.Deep.QuietTactic
import Derived.BigQuiet
import Derived.ProofKit
import Derived.OpenShut
import Derived.Deep.Slices
import Derived.Deep.Strs
import Derived.BigRegion
import Derived.Laws.EntriesVeiled
import Derived.Deep.RegionLaw
namespace Go.Proofs.YtbkdgpeooeokmaaDoor
open Go.RowKit
set_option linter.unusedVariables false

/-- What the logarithm is told of: a number and 1; of one below 0, 1. -/
def moreI (x : Int) : Int := if 0 < x then x + 1 else 1

theorem more_u (x : Int) (h : In64 x) : U64 (moreI x) := by unfold moreI; unfold In64 at h; unfold U64; split <;> omega

theorem more_pos (x : Int) : 1 ≤ moreI x := by unfold moreI; split <;> omega

def logsL (xs : List Int) : List Int := mkL xs.length fun i => logI (moreI (xs.getD i 0))

theorem logs_len (xs : List Int) : (logsL xs).length = xs.length := mkL_len _ _

theorem logs_at (xs : List Int) (i : Nat) (h : i < xs.length) : (logsL xs).getD i 0 = logI (moreI (xs.getD i 0)) := mkL_at _ _ _ h

theorem more_facts (x : Int) (h : In64 x) : 0 ≤ logI (moreI x) ∧ logI (moreI x) < 16384 ∧ (logI (moreI x) = 0 ↔ x ≤ 0) := by
  have hp := more_pos x
  have hu := more_u x h
  unfold logI
  have hb := logN_bd (moreI x).toNat (by omega)
  have h2 := bl_le (moreI x).toNat 64 (by have := hu.2; omega)
  refine ⟨by omega, by omega, fun e => ?_, fun e => ?_⟩
  · by_cases c : 0 < x
    · have h3 : 2 ≤ (moreI x).toNat := by unfold moreI; rw [if_pos c]; omega
      have h4 := logN_mono 2 (moreI x).toNat h3
      have h5 : logN 2 = 256 := by decide +kernel
      omega
    · omega
  · have : moreI x = 1 := by unfold moreI; rw [if_neg (by omega)]
    rw [this]; decide +kernel

theorem more_mono (x y : Int) (h : x ≤ y) : logI (moreI x) ≤ logI (moreI y) := by
  have h1 : moreI x ≤ moreI y := by unfold moreI; split <;> split <;> omega
  have := logN_mono (moreI x).toNat (moreI y).toNat (by omega)
  unfold logI; omega

def mayD (n : Nat) : Prop := n = 4 ∨ n = 8 ∨ n = 16
instance (n : Nat) : Decidable (mayD n) := by unfold mayD; infer_instance

theorem mayD_le {n : Nat} (h : mayD n) : 4 ≤ n ∧ n ≤ 16 := by unfold mayD at h; omega

def rowAt (n k m : Nat) : Int := cosI ((k * (2 * m + 1) * 16 / n : Nat) : Int)

def cosRow (n k : Nat) : List Int := mkL n (rowAt n k)

theorem rowAt_bd (n k m : Nat) : -16384 ≤ rowAt n k m ∧ rowAt n k m ≤ 16384 := cosI_bd _

theorem row_small (n k : Nat) : Small (cosRow n k) := by
  intro x hx
  unfold cosRow mkL at hx
  obtain ⟨i, _, rfl⟩ := List.mem_map.1 hx
  have := rowAt_bd n k i; unfold In64; omega

theorem row_turn4 : ∀ k, k < 4 → ∀ m, m < 4 → rowAt 4 k (3 - m) = if k % 2 = 1 then 0 - rowAt 4 k m else rowAt 4 k m := by decide +kernel

theorem row_turn8 : ∀ k, k < 8 → ∀ m, m < 8 → rowAt 8 k (7 - m) = if k % 2 = 1 then 0 - rowAt 8 k m else rowAt 8 k m := by decide +kernel

theorem row_turn16 : ∀ k, k < 16 → ∀ m, m < 16 → rowAt 16 k (15 - m) = if k % 2 = 1 then 0 - rowAt 16 k m else rowAt 16 k m := by decide +kernel

theorem row_turn (n k m : Nat) (hn : mayD n) (hk : k < n) (hm : m < n) : rowAt n k (n - 1 - m) = if k % 2 = 1 then 0 - rowAt n k m else rowAt n k m := by
  rcases hn with rfl | rfl | rfl
  · exact row_turn4 k hk m hm
  · exact row_turn8 k hk m hm
  · exact row_turn16 k hk m hm

theorem row_zero (n m : Nat) : rowAt n 0 m = 16384 := by unfold rowAt; rw [Nat.zero_mul, Nat.zero_mul, Nat.zero_div]; decide +kernel

theorem row_sum4 : ∀ k, k < 4 → 0 < k → sumF (rowAt 4 k) 4 = 0 := by decide +kernel

theorem row_sum8 : ∀ k, k < 8 → 0 < k → sumF (rowAt 8 k) 8 = 0 := by decide +kernel

theorem row_sum16 : ∀ k, k < 16 → 0 < k → sumF (rowAt 16 k) 16 = 0 := by decide +kernel

theorem row_sum (n k : Nat) (hn : mayD n) (hk : k < n) (h0 : 0 < k) : sumF (rowAt n k) n = 0 := by
  rcases hn with rfl | rfl | rfl
  · exact row_sum4 k hk h0
  · exact row_sum8 k hk h0
  · exact row_sum16 k hk h0

theorem sum_same (c : Int) : ∀ n, sumF (fun _ => c) n = (n : Int) * c
  | 0 => by show 0 = _; omega
  | n + 1 => by
    show sumF (fun _ => c) n + c = _
    rw [sum_same c n, show ((n + 1 : Nat) : Int) = (n : Int) + 1 by omega, Int.add_mul]; omega

theorem row_sum0 (n : Nat) : sumF (rowAt n 0) n = (n : Int) * 16384 := by
  rw [sumF_congr (rowAt n 0) (fun _ => 16384) n fun i _ => row_zero n i, sum_same]

def coefS (k : Nat) (xs : List Int) : Int := sumF (fun m => xs.getD m 0 * rowAt xs.length k m) xs.length

def coefI (k : Nat) (xs : List Int) : Int := halfI (wrap64 (coefS k xs)) 14

def dctL (c : Nat) (xs : List Int) : List Int := mkL c fun k => coefI k xs

theorem dct_len (c : Nat) (xs : List Int) : (dctL c xs).length = c := mkL_len _ _

theorem dct_at (c : Nat) (xs : List Int) (k : Nat) (h : k < c) : (dctL c xs).getD k 0 = coefI k xs := mkL_at _ _ _ h

theorem half14 (y : Int) : halfI y 14 = divI y 16384 := by rw [halfI_yes y 14 (by decide) (by decide)]; rfl

theorem coefS_bd (k : Nat) (xs : List Int) (n : Nat) (hn : xs.length = n) (h16 : n ≤ 16) (hx : ∀ m, m < n → -1099511627776 ≤ xs.getD m 0 ∧ xs.getD m 0 ≤ 1099511627776) :
    -288230376151711744 ≤ coefS k xs ∧ coefS k xs ≤ 288230376151711744 := by
  unfold coefS
  rw [hn]
  have := sumF_bd (fun m => xs.getD m 0 * rowAt n k m) (1099511627776 * 16384) n fun m hm => mul_bd _ _ _ _ (by decide) (by decide) (hx m hm) (rowAt_bd n k m)
  omega

/-- Numbers that all are the same. -/
theorem coef_flat (k : Nat) (xs : List Int) (n : Nat) (x : Int) (hn : xs.length = n) (hm : mayD n) (hk : k < n) (hx : ∀ m, m < n → xs.getD m 0 = x) (h0 : -1099511627776 ≤ x) (h1 : x ≤ 1099511627776) :
    coefI k xs = if k = 0 then (n : Int) * x else 0 := by
  have hle := mayD_le hm
  have hb := coefS_bd k xs n hn hle.2 (fun m hm => by rw [hx m hm]; omega)
  unfold coefI
  rw [w64_in ⟨by omega, by omega⟩, half14]
  have hs : coefS k xs = x * sumF (rowAt n k) n := by
    unfold coefS; rw [hn, ← sumF_mul]; exact sumF_congr _ _ _ fun m hm => by rw [hx m hm]
  by_cases c : k = 0
  · subst c
    rw [hs, if_pos rfl, row_sum0, show x * ((n : Int) * 16384) = ((n : Int) * x) * 16384 by rw [← Int.mul_assoc, Int.mul_comm x]]
    exact div_whole _ _ (by decide)
  · rw [hs, if_neg c, row_sum n k hm hk (by omega), Int.mul_zero]; decide

/-- A sum the other way round. -/
theorem sumF_back (f : Nat → Int) : ∀ n, sumF (fun i => f (n - 1 - i)) n = sumF f n
  | 0 => rfl
  | n + 1 => by
    rw [sumF_head]
    show f (n + 1 - 1 - 0) + sumF (fun t => f (n + 1 - 1 - (t + 1))) n = sumF f n + f n
    have := sumF_back f n
    rw [sumF_congr (fun t => f (n + 1 - 1 - (t + 1))) (fun i => f (n - 1 - i)) n (fun i _ => by congr 1; omega), this]
    rw [show n + 1 - 1 - 0 = n by omega]; omega

/-- The other way round: the same, or turned. -/
theorem coefS_back (k : Nat) (xs ys : List Int) (n : Nat) (hn : xs.length = n) (hn2 : ys.length = n) (hm : mayD n) (hk : k < n) (hy : ∀ m, m < n → ys.getD m 0 = xs.getD (n - 1 - m) 0) :
    coefS k ys = if k % 2 = 1 then 0 - coefS k xs else coefS k xs := by
  have h1 : coefS k ys = sumF (fun m => xs.getD m 0 * rowAt n k (n - 1 - m)) n := by
    unfold coefS
    rw [hn2, ← sumF_back (fun m => xs.getD m 0 * rowAt n k (n - 1 - m)) n]
    exact sumF_congr _ _ _ fun m hm' => by
      show ys.getD m 0 * rowAt n k m = xs.getD (n - 1 - m) 0 * rowAt n k (n - 1 - (n - 1 - m))
      rw [hy m hm', show n - 1 - (n - 1 - m) = m by omega]
  rw [h1]
  by_cases c : k % 2 = 1
  · rw [if_pos c]
    unfold coefS
    rw [hn, show (0 : Int) - sumF (fun m => xs.getD m 0 * rowAt n k m) n = -sumF (fun m => xs.getD m 0 * rowAt n k m) n by omega, ← sumF_neg]
    exact sumF_congr _ _ _ fun m hm' => by rw [row_turn n k m hm hk hm', if_pos c, Int.zero_sub, Int.mul_neg]
  · rw [if_neg c]
    unfold coefS
    rw [hn]
    exact sumF_congr _ _ _ fun m hm' => by rw [row_turn n k m hm hk hm', if_neg c]

theorem half_turn (s : Int) : halfI s 14 + halfI (0 - s) 14 = 0 ∨ halfI s 14 + halfI (0 - s) 14 = 1 := by
  rw [half14, half14, divI_eq _ _ (by decide), divI_eq _ _ (by decide)]; omega

theorem coef_back (k : Nat) (xs ys : List Int) (n : Nat) (hn : xs.length = n) (hn2 : ys.length = n) (hm : mayD n) (hk : k < n) (hy : ∀ m, m < n → ys.getD m 0 = xs.getD (n - 1 - m) 0) (hx : ∀ m, m < n → -1099511627776 ≤ xs.getD m 0 ∧ xs.getD m 0 ≤ 1099511627776) :
    if k % 2 = 1 then coefI k xs + coefI k ys = 0 ∨ coefI k xs + coefI k ys = 1 else coefI k xs = coefI k ys := by
  have hb := coefS_bd k xs n hn (mayD_le hm).2 hx
  have hs := coefS_back k xs ys n hn hn2 hm hk hy
  unfold coefI
  by_cases c : k % 2 = 1
  · rw [if_pos c] at hs ⊢
    rw [hs, w64_in ⟨by omega, by omega⟩, w64_in ⟨by omega, by omega⟩]
    exact half_turn _
  · rw [if_neg c] at hs ⊢
    rw [hs]

/-- Numbers that 2^14 goes into: nothing is lost. -/
theorem coef_whole (k : Nat) (xs q : List Int) (n : Nat) (hn : xs.length = n) (h16 : n ≤ 16) (hx : ∀ m, m < n → xs.getD m 0 = 16384 * q.getD m 0 ∧ -1099511627776 ≤ xs.getD m 0 ∧ xs.getD m 0 ≤ 1099511627776) :
    coefI k xs = sumF (fun m => q.getD m 0 * rowAt n k m) n := by
  have hb := coefS_bd k xs n hn h16 (fun m hm => (hx m hm).2)
  have hs : coefS k xs = sumF (fun m => q.getD m 0 * rowAt n k m) n * 16384 := by
    unfold coefS
    rw [hn, Int.mul_comm, ← sumF_mul]
    exact sumF_congr _ _ _ fun m hm => by rw [(hx m hm).1, Int.mul_assoc]
  unfold coefI
  rw [w64_in ⟨by omega, by omega⟩, half14, hs]
  exact div_whole _ _ (by decide)

theorem coef_plus (p q : List Int) (k n : Nat) : sumF (fun m => (p.getD m 0 + q.getD m 0) * rowAt n k m) n = sumF (fun m => p.getD m 0 * rowAt n k m) n + sumF (fun m => q.getD m 0 * rowAt n k m) n := by
  rw [← sumF_plus]; exact sumF_congr _ _ _ fun m _ => Int.add_mul _ _ _

def dfillL (n : Nat) (f : Nat → Int) (j : Nat) : List Int := mkL n fun i => if i < j then f i else 0

theorem dfill_len (n : Nat) (f : Nat → Int) (j : Nat) : (dfillL n f j).length = n := mkL_len _ _

theorem dfill_zero (n : Nat) (f : Nat → Int) : List.replicate n (0 : Int) = dfillL n f 0 := by
  symm; exact mkL_eq _ _ _ (by simp) (fun i hi => by simp [List.getD_eq_getElem?_getD, hi])

theorem dfill_all (n : Nat) (f : Nat → Int) : dfillL n f n = mkL n f := mkL_congr _ _ _ fun i hi => by rw [if_pos hi]

theorem dfill_set (n : Nat) (f : Nat → Int) (j : Nat) (z : Int) (h : j < n) (hz : f j = z) : (dfillL n f j).set j z = dfillL n f (j + 1) := by
  symm
  refine mkL_eq _ _ _ (by rw [List.length_set, dfill_len]) fun i hi => ?_
  rw [getD_set, dfill_len]
  by_cases e : i = j
  · subst e; rw [if_pos (Nat.lt_succ_self i), if_pos ⟨rfl, h⟩, hz]
  · rw [if_neg (fun c : j = i ∧ _ => e c.1.symm), dfillL, mkL_at _ _ _ hi]
    by_cases c : i < j
    · rw [if_pos c, if_pos (by omega)]
    · rw [if_neg c, if_neg (by omega)]

/-- A row that grows. -/
theorem mk_step (f : Nat → Int) (k : Nat) (z : Int) (hz : f k = z) : ints (mkL (k + 1) f) = ints (mkL k f) ++ [.int .i64 z] := by
  rw [← hz]; simp [ints, mkL, List.range_succ]

theorem downs_under {w w' : World} {base n : Nat} {v : Value} {xs : List Value} (h : w.ownsRow base 3 1 v n xs) (hb : Below w.heap.size w w') : w'.ownsRow base 3 1 v n xs := by
  refine ⟨h.1, ?_⟩
  rcases h.2 with h' | ⟨g, cap, cur, h1, h2, h3, h4⟩
  · exact .inl h'
  · exact .inr ⟨g, cap, cur, h1, h2, by rw [hb.block g (by have := Array.getElem?_eq_some_iff.1 h3; exact this.1)]; exact h3, h4⟩

theorem max_more (x : Int) (h : In64 x) : IntKind.u64.wrap (IntKind.u64.wrap (max x 0) + 1) = moreI x := by
  rw [IntKind.wrap_u64, IntKind.wrap_u64]; unfold In64 at h; unfold moreI; split <;> omega

set_option maxRecDepth 100000 in
theorem logs_any (a : Option Addr) (cap n : Nat) (xs : List Int) (w : World) (hl : Lies w a xs) (hs : Small xs) (hn : xs.length = n) (hm : n ≤ 1000000) :
    Calls Tryd.prog 44 #[.slice a n cap] w (Told (logsL xs) w) := by
  obtain ⟨i0, hi, hz0, hz1, hz2⟩ := info_parts Tryd.info3
  have HL := hide hl
  have HN := hide hn
  have HS := hide hs
  clear hl hn hs
  go_enter Tryd.func44, Tryd.ntmps44
  go_wp2_with (at_make; refine wpList_make_full _ rfl _ _ 24 rfl w.heap.size 3 i0 (.int .i64 0) 1 Tryd.underlying24 hi hz0 hz1 _ _ _ _ n rfl rfl rfl rfl ?m1 ?m2 ?m3 ?_)
  case m1 => rw [hz2]; omega
  case m2 => unfold maxLen; omega
  case m3 => exact Nat.le_refl _
  intro w1 hown hgr
  rw [ints_zero, dfill_zero n fun i => logI (moreI (xs.getD i 0))] at hown
  have HO := hide (own_cells hown)
  have HB := hide ((Below.refl w.heap.size w).grown hgr (Nat.le_refl _) (fun _ h => by cases h))
  clear hown hgr
  go_wp2
  go_loopw [11] (fun i wr => ∃ j : Nat, j ≤ n ∧ i = .int .i64 (j : Int) ∧ Hid (Cells wr w.heap.size (ints (dfillL n (fun i => logI (moreI (xs.getD i 0))) j))) ∧ Hid (Below w.heap.size w wr))
    (fun i _ => n - (intOf i).toNat)
  case atStart => exact ⟨0, by omega, rfl, HO, HB⟩
  case round =>
    obtain ⟨j, hj, rfl, HOr, HBr⟩ := hrel
    by_cases hlt : j < n
    · obtain ⟨ba, oa, rfl, hlta, hca⟩ := (unhide HL).some (by intro h; have := unhide HN; subst h; simp at this; omega)
      have cx : wr.cell? ⟨ba, oa + j, none⟩ = some (.int .i64 (xs.getD j 0)) := by rw [(unhide HBr).cell (p := ⟨ba, _, none⟩) hlta]; exact hca j (by rw [unhide HN]; exact hlt)
      have hx := (unhide HS).all j
      obtain ⟨x, hxx⟩ : ∃ x, xs.getD j 0 = x := ⟨_, rfl⟩
      rw [hxx] at cx hx
      obtain ⟨z, hz⟩ : ∃ z, logI (moreI x) = z := ⟨_, rfl⟩
      have HX := hide (dfill_set n (fun i => logI (moreI (xs.getD i 0))) j z hlt (by rw [hxx]; exact hz))
      have hmx := max_more x hx
      have HC : Hid (∀ w0, Calls Tryd.prog 61 #[.int .u64 (moreI x)] w0 fun e w' => e = .returned (.int .i64 z) ∧ w' = w0) := fun w0 => by rw [← hz]; exact log_any _ w0 (more_u x hx)
      have hcell := (unhide HOr).cell j _ (ints_at _ j (by rw [dfill_len]; exact hlt))
      have hfree := (unhide HOr).free j
      clear hca hxx hz HO HB
      go_wp2_with fail
      refine (unhide HC _).mono ?_
      rintro e w2 ⟨rfl, rfl⟩
      go_wp2
      go_roundw
      case rel =>
        refine ⟨j + 1, by omega, by simp, ?_, (unhide HBr).setCell (Nat.le_refl _) _⟩
        have := (unhide HOr).set j (.int .i64 z)
        rw [ints_set, unhide HX] at this
        exact this
      case measure => simp [intOf]; omega
    · obtain rfl : j = n := by omega
      rw [dfill_all] at HOr
      have HL5 := hide (unhide HOr).lies
      clear HOr HO
      go_wp2
      go_ret
      exact ⟨_, _, _, rfl, by rw [logs_len]; exact unhide HN, by rw [logsL, unhide HN]; exact unhide HL5, unhide HBr⟩

set_option maxRecDepth 100000 in
theorem logs_cells (a : Option Addr) (cap n : Nat) (xs : List Int) (w : World) (hl : Lies w a xs) (hs : Small xs) (hn : xs.length = n) (hm : n ≤ 1000000) :
    Calls Tryd.prog 44 #[.slice a n cap] w fun e w' => ∃ g, e = .returned (.slice (some ⟨g, 0, none⟩) n n) ∧ w.heap.size ≤ g ∧ Cells w' g (ints (logsL xs)) ∧ Below w.heap.size w w' := by
  obtain ⟨i0, hi, hz0, hz1, hz2⟩ := info_parts Tryd.info3
  have HL := hide hl
  have HN := hide hn
  have HS := hide hs
  clear hl hn hs
  go_enter Tryd.func44, Tryd.ntmps44
  go_wp2_with (at_make; refine wpList_make_full _ rfl _ _ 24 rfl w.heap.size 3 i0 (.int .i64 0) 1 Tryd.underlying24 hi hz0 hz1 _ _ _ _ n rfl rfl rfl rfl ?m1 ?m2 ?m3 ?_)
  case m1 => rw [hz2]; omega
  case m2 => unfold maxLen; omega
  case m3 => exact Nat.le_refl _
  intro w1 hown hgr
  rw [ints_zero, dfill_zero n fun i => logI (moreI (xs.getD i 0))] at hown
  have HO := hide (own_cells hown)
  have HB := hide ((Below.refl w.heap.size w).grown hgr (Nat.le_refl _) (fun _ h => by cases h))
  clear hown hgr
  go_wp2
  go_loopw [11] (fun i wr => ∃ j : Nat, j ≤ n ∧ i = .int .i64 (j : Int) ∧ Hid (Cells wr w.heap.size (ints (dfillL n (fun i => logI (moreI (xs.getD i 0))) j))) ∧ Hid (Below w.heap.size w wr))
    (fun i _ => n - (intOf i).toNat)
  case atStart => exact ⟨0, by omega, rfl, HO, HB⟩
  case round =>
    obtain ⟨j, hj, rfl, HOr, HBr⟩ := hrel
    by_cases hlt : j < n
    · obtain ⟨ba, oa, rfl, hlta, hca⟩ := (unhide HL).some (by intro h; have := unhide HN; subst h; simp at this; omega)
      have cx : wr.cell? ⟨ba, oa + j, none⟩ = some (.int .i64 (xs.getD j 0)) := by rw [(unhide HBr).cell (p := ⟨ba, _, none⟩) hlta]; exact hca j (by rw [unhide HN]; exact hlt)
      have hx := (unhide HS).all j
      obtain ⟨x, hxx⟩ : ∃ x, xs.getD j 0 = x := ⟨_, rfl⟩
      rw [hxx] at cx hx
      obtain ⟨z, hz⟩ : ∃ z, logI (moreI x) = z := ⟨_, rfl⟩
      have HX := hide (dfill_set n (fun i => logI (moreI (xs.getD i 0))) j z hlt (by rw [hxx]; exact hz))
      have hmx := max_more x hx
      have HC : Hid (∀ w0, Calls Tryd.prog 61 #[.int .u64 (moreI x)] w0 fun e w' => e = .returned (.int .i64 z) ∧ w' = w0) := fun w0 => by rw [← hz]; exact log_any _ w0 (more_u x hx)
      have hcell := (unhide HOr).cell j _ (ints_at _ j (by rw [dfill_len]; exact hlt))
      have hfree := (unhide HOr).free j
      clear hca hxx hz HO HB
      go_wp2_with fail
      refine (unhide HC _).mono ?_
      rintro e w2 ⟨rfl, rfl⟩
      go_wp2
      go_roundw
      case rel =>
        refine ⟨j + 1, by omega, by simp, ?_, (unhide HBr).setCell (Nat.le_refl _) _⟩
        have := (unhide HOr).set j (.int .i64 z)
        rw [ints_set, unhide HX] at this
        exact this
      case measure => simp [intOf]; omega
    · obtain rfl : j = n := by omega
      rw [dfill_all] at HOr
      clear HO
      go_wp2
      go_ret
      exact ⟨_, rfl, Nat.le_refl _, by rw [logsL]; rw [show xs.length = j from unhide HN]; exact unhide HOr, unhide HBr⟩

theorem cosRow_len (n k : Nat) : (cosRow n k).length = n := mkL_len _ _

theorem maybe_any (b : Int) (w : World) :
    Calls Tryd.prog 65 #[.int .i64 b] w fun e w' => e = .returned (.bool (decide (b = 4 ∨ b = 8 ∨ b = 16))) ∧ w' = w := by
  by_cases h : b = 4 ∨ b = 8 ∨ b = 16
  · have HV := hide (show decide (b = 4 ∨ b = 8 ∨ b = 16) = true from decide_eq_true h)
    rcases h with rfl | rfl | rfl
    all_goals (
      go_enter Tryd.func65, Tryd.ntmps65
      go_wp2_with fail
      go_ret
      exact ⟨rfl, rfl⟩)
  · have HV := hide (show decide (b = 4 ∨ b = 8 ∨ b = 16) = false from decide_eq_false h)
    have h1 : ¬ b = 4 := by omega
    have h2 : ¬ b = 8 := by omega
    have h3 : ¬ b = 16 := by omega
    clear h
    go_enter Tryd.func65, Tryd.ntmps65
    go_wp2_with fail
    go_ret
    exact ⟨by rw [unhide HV]; rfl, rfl⟩

theorem dmay_any (b : Int) (w : World) :
    Calls Tryd.prog 34 #[.int .i64 b] w fun e w' => e = .returned (.bool (decide (b = 4 ∨ b = 8 ∨ b = 16))) ∧ w' = w := by
  by_cases h : b = 4 ∨ b = 8 ∨ b = 16
  · have HV := hide (show decide (b = 4 ∨ b = 8 ∨ b = 16) = true from decide_eq_true h)
    rcases h with rfl | rfl | rfl
    all_goals (
      go_enter Tryd.func34, Tryd.ntmps34
      go_wp2_with fail
      go_ret
      exact ⟨rfl, rfl⟩)
  · have HV := hide (show decide (b = 4 ∨ b = 8 ∨ b = 16) = false from decide_eq_false h)
    have h1 : ¬ b = 4 := by omega
    have h2 : ¬ b = 8 := by omega
    have h3 : ¬ b = 16 := by omega
    clear h
    go_enter Tryd.func34, Tryd.ntmps34
    go_wp2_with fail
    go_ret
    exact ⟨by rw [unhide HV]; show Ending.returned (.bool (b == 4 || b == 8 || b == 16)) = _; simp [h1, h2, h3], rfl⟩

theorem dplace_bd (n k m : Nat) (h : mayD n) (hk : k < n) (hm : m < n) : k * (2 * m + 1) ≤ 500 := by
  have h16 := (mayD_le h).2
  exact Nat.le_trans (Nat.mul_le_mul (show k ≤ 15 by omega) (show 2 * m + 1 ≤ 31 by omega)) (by decide)

theorem place_int (n k m : Nat) (h : mayD n) (hk : k < n) (hm : m < n) : wrap64 (wrap64 ((k : Int) * (2 * (m : Int) + 1)) * (16 / (n : Int))) = ((k * (2 * m + 1) * 16 / n : Nat) : Int) := by
  have hb := dplace_bd n k m h hk hm
  have e : (k : Int) * (2 * (m : Int) + 1) = ((k * (2 * m + 1) : Nat) : Int) := by push_cast; rfl
  rw [e]
  generalize k * (2 * m + 1) = x at *
  clear e
  unfold wrap64
  rcases h with rfl | rfl | rfl <;> omega

set_option maxRecDepth 100000 in
theorem row_yes (n k : Nat) (w : World) (h : mayD n) (hk : k < n) (hq : Quar w) :
    Calls Tryd.prog 67 #[.int .i64 (k : Int), .int .i64 (n : Int)] w (Told (cosRow n k) w) := by
  obtain ⟨i0, hi, hz0, hz1, hz2⟩ := info_parts Tryd.info3
  have h16 := (mayD_le h).2
  have HM := hide h
  have HD := hide (show decide ((n : Int) = 4 ∨ (n : Int) = 8 ∨ (n : Int) = 16) = true from decide_eq_true (by unfold mayD at h; omega))
  have HQ := hide hq
  have hkn : (k : Int) < (n : Int) := by omega
  clear h hq
  go_enter Tryd.func67, Tryd.ntmps67
  go_wp2_with fail
  refine (maybe_any (n : Int) w).mono ?_
  rintro e w0 ⟨rfl, rfl⟩
  rw [unhide HD]
  go_wp2_with (at_make; refine wpList_make_full _ rfl _ _ 24 rfl w0.heap.size 3 i0 (.int .i64 0) 1 Tryd.underlying24 hi hz0 hz1 _ _ _ _ n rfl rfl rfl rfl ?m1 ?m2 ?m3 ?_)
  case m1 => rw [hz2]; omega
  case m2 => unfold maxLen; omega
  case m3 => exact Nat.le_refl _
  intro w1 hown hgr
  rw [ints_zero, dfill_zero n (rowAt n k)] at hown
  have HO := hide (own_cells hown)
  have HB := hide ((Below.refl w0.heap.size w0).grown hgr (Nat.le_refl _) (fun _ h => by cases h))
  clear hown hgr
  go_wp2
  go_loopw [23] (fun i wr => ∃ m : Nat, m ≤ n ∧ i = .int .i64 (m : Int) ∧ Hid (Cells wr w0.heap.size (ints (dfillL n (rowAt n k) m))) ∧ Hid (Below w0.heap.size w0 wr))
    (fun i _ => n - (intOf i).toNat)
  case atStart => exact ⟨0, by omega, rfl, HO, HB⟩
  case round =>
    obtain ⟨m, hm, rfl, HOr, HBr⟩ := hrel
    by_cases hlt : m < n
    · obtain ⟨z, hz⟩ : ∃ z, rowAt n k m = z := ⟨_, rfl⟩
      have HX := hide (dfill_set n (rowAt n k) m z hlt hz)
      have hp := place_int n k m (unhide HM) hk hlt
      obtain ⟨p, hpp⟩ : ∃ p : Int, ((k * (2 * m + 1) * 16 / n : Nat) : Int) = p := ⟨_, rfl⟩
      rw [hpp] at hp
      have HC : Hid (∀ w, Quar w → Calls Tryd.prog 77 #[.int .i64 p] w fun e w' => e = .returned (.int .i64 z) ∧ Below w.heap.size w w') := fun w hq => by
        rw [← hz, show rowAt n k m = cosI p by rw [← hpp]; rfl]
        refine cos_any p w ?_ hq
        have hb := dplace_bd n k m (unhide HM) hk hlt
        have h16' := unhide HM
        rw [← hpp]
        generalize k * (2 * m + 1) = x at *
        unfold In64
        rcases h16' with rfl | rfl | rfl <;> omega
      have hq := (unhide HQ).below (unhide HBr)
      clear hz hpp HO HB
      go_wp2_with fail
      refine (unhide HC _ hq).mono ?_
      rintro e w2 ⟨rfl, hb2⟩
      have HB2 := hide ((unhide HBr).trans (hb2.mono (unhide HBr).size))
      have HO2 := hide ((unhide HOr).below hb2)
      have hcell := (unhide HO2).cell m _ (ints_at _ m (by rw [dfill_len]; exact hlt))
      have hfree := (unhide HO2).free m
      clear hb2 HOr HBr
      go_wp2
      go_roundw
      case rel =>
        refine ⟨m + 1, by omega, by simp, ?_, (unhide HB2).setCell (Nat.le_refl _) _⟩
        have := (unhide HO2).set m (.int .i64 z)
        rw [ints_set, unhide HX] at this
        exact this
      case measure => simp [intOf]; omega
    · obtain rfl : m = n := by omega
      rw [dfill_all] at HOr
      have HL5 := hide (unhide HOr).lies
      clear HOr HO
      go_wp2
      go_ret
      exact ⟨_, _, _, rfl, cosRow_len m k, unhide HL5, unhide HBr⟩

theorem dct_cell_one {w : World} {b : Nat} {v : Value} {t : TypeId} (h : w.heap[b]? = some (.cells #[v] t (0, 0))) : w.cell? ⟨b, 0, none⟩ = some v := by
  simp [World.cell?, h]

theorem dct_new_one (w : World) (v : Value) (t : TypeId) : (w.alloc (.cells #[v] t)).heap[w.heap.size]? = some (.cells #[v] t (0, 0)) := by
  show (w.heap.push _)[w.heap.size]? = _
  simp

/-- What the closure holds. -/
structure EnvD (w : World) (bn bx : Nat) (a : Option Addr) (n cap : Nat) : Prop where
  hn : w.heap[bn]? = some (.cells #[.int .i64 (n : Int)] 3 (0, 0))
  hx : w.heap[bx]? = some (.cells #[.slice a n cap] 24 (0, 0))

theorem EnvD.below {w w' : World} {bn bx : Nat} {a : Option Addr} {n cap : Nat} (h : EnvD w bn bx a n cap) (hb : Below w.heap.size w w') : EnvD w' bn bx a n cap :=
  ⟨by rw [hb.block _ (Array.getElem?_eq_some_iff.1 h.hn).1]; exact h.hn, by rw [hb.block _ (Array.getElem?_eq_some_iff.1 h.hx).1]; exact h.hx⟩

theorem coef_step (xs : List Int) (n k m : Nat) (s x c : Int) (hs : wrap64 (sumF (fun m => xs.getD m 0 * rowAt n k m) m) = s) (hx : xs.getD m 0 = x) (hc : rowAt n k m = c) :
    wrap64 (sumF (fun m => xs.getD m 0 * rowAt n k m) (m + 1)) = wrap64 (s + wrap64 (x * c)) := by
  rw [← wrap_step _ (x * c) s _ hs rfl, ← hx, ← hc]; rfl

theorem coef_end (xs : List Int) (n k : Nat) (s : Int) (hn : xs.length = n) (hs : wrap64 (sumF (fun m => xs.getD m 0 * rowAt n k m) n) = s) : halfI s 14 = coefI k xs := by
  unfold coefI coefS; rw [hn, hs]

set_option maxRecDepth 100000 in
theorem coef_any (bn bx : Nat) (a : Option Addr) (cap n k : Nat) (xs : List Int) (w : World) (hn : xs.length = n) (hm : mayD n) (hk : k < n) (he : EnvD w bn bx a n cap) (hl : Lies w a xs) (hs : Small xs) (hq : Quar w) :
    Calls Tryd.prog 66 #[.int .i64 (k : Int), .pointer (some ⟨bn, 0, none⟩), .pointer (some ⟨bx, 0, none⟩)] w fun e w' => e = .returned (.int .i64 (coefI k xs)) ∧ Below w.heap.size w w' := by
  have h16 := (mayD_le hm).2
  have HL := hide hl
  have HN := hide hn
  have HS := hide hs
  have HM := hide hm
  have HE := hide he
  have HQ := hide hq
  have c1 := dct_cell_one he.hn
  clear hl hn hs hm he hq
  go_enter Tryd.func66, Tryd.ntmps66
  go_wp2_with fail
  refine (row_yes n k w (unhide HM) hk (unhide HQ)).mono ?_
  rintro e w1 ⟨a1, l1, cap1, rfl, hl1, hlies, hb⟩
  obtain rfl : n = l1 := by rw [← hl1, cosRow_len]
  have HR := hide hlies
  have HB := hide hb
  have c2 := dct_cell_one ((unhide HE).below hb).hx
  clear hlies hb hl1 c1
  go_wp2
  go_loopw [12, 5] (fun i v wr => ∃ m : Nat, m ≤ n ∧ i = .int .i64 (m : Int) ∧ Hid (v = .int .i64 (wrap64 (sumF (fun m => xs.getD m 0 * rowAt n k m) m))) ∧ wr = w1)
    (fun i _ _ => n - (intOf i).toNat)
  case atStart => exact ⟨0, by omega, rfl, by show _ = _; rw [show wrap64 (sumF (fun m => xs.getD m 0 * rowAt n k m) 0) = 0 by show wrap64 0 = 0; decide +kernel], rfl⟩
  case round =>
    obtain ⟨m, hm, rfl, HV, rfl⟩ := hrel
    obtain ⟨s, hs⟩ : ∃ s, wrap64 (sumF (fun m => xs.getD m 0 * rowAt n k m) m) = s := ⟨_, rfl⟩
    rw [hs] at HV
    have hsb : In64 s := by rw [← hs]; exact wrap_in _
    have hv := unhide HV
    subst hv
    have HSS := hide hs
    clear HV hs
    by_cases hlt : m < n
    · obtain ⟨ba, oa, rfl, hlta, hca⟩ := (unhide HL).some (by intro h; have := unhide HN; subst h; simp at this; omega)
      have cx : wr.cell? ⟨ba, oa + m, none⟩ = some (.int .i64 (xs.getD m 0)) := by rw [(unhide HB).cell (p := ⟨ba, _, none⟩) hlta]; exact hca m (by rw [unhide HN]; exact hlt)
      obtain ⟨b1, o1, rfl, hlt1, hc1⟩ := (unhide HR).some (by intro h; have := cosRow_len n k; rw [h] at this; simp at this; omega)
      have cy : wr.cell? ⟨b1, o1 + m, none⟩ = some (.int .i64 (rowAt n k m)) := by rw [hc1 m (by rw [cosRow_len]; exact hlt), cosRow, mkL_at _ _ _ hlt]
      obtain ⟨x, hx⟩ : ∃ x, xs.getD m 0 = x := ⟨_, rfl⟩
      obtain ⟨c, hc⟩ : ∃ c, rowAt n k m = c := ⟨_, rfl⟩
      rw [hx] at cx
      rw [hc] at cy
      have HX := hide (coef_step xs n k m s x c (unhide HSS) hx hc)
      clear hca hc1 hx hc
      go_wp2_with fail
      go_roundw
      case rel => exact ⟨m + 1, by omega, by simp, by show _ = _; rw [unhide HX], trivial⟩
      case measure => simp [intOf]; omega
    · obtain rfl : m = n := by omega
      have HE2 := hide (coef_end xs m k s (unhide HN) (unhide HSS))
      have HSB := hide hsb
      clear hsb
      go_wp2_with fail
      refine (half_any s 14 _ (unhide HSB)).mono ?_
      rintro e w3 ⟨rfl, hb3⟩
      rw [unhide HE2]
      have HB3 := hide (below_trans (unhide HB) hb3)
      clear hb3
      go_wp2_with fail
      go_ret
      exact ⟨rfl, unhide HB3⟩

/-- Dct(coefs, xs..), of any numbers. -/
def dctI (c : Int) (xs : List Int) : List Int := if mayD xs.length ∧ 1 ≤ c ∧ c ≤ (xs.length : Int) then dctL c.toNat xs else []

theorem dctI_yes (c n : Nat) (xs : List Int) (hn : xs.length = n) (h : mayD n) (h1 : 1 ≤ c) (h2 : c ≤ n) : dctI (c : Int) xs = dctL c xs := by
  unfold dctI; rw [hn, if_pos ⟨h, by omega, by omega⟩]; simp

theorem dctI_no (c : Int) (n : Nat) (xs : List Int) (hn : xs.length = n) (h : ¬ (mayD n ∧ 1 ≤ c ∧ c ≤ (n : Int))) : dctI c xs = [] := by unfold dctI; rw [hn, if_neg h]

theorem mayD_dec (n : Nat) : decide ((n : Int) = 4 ∨ (n : Int) = 8 ∨ (n : Int) = 16) = decide (mayD n) := by
  apply decide_eq_decide.2; unfold mayD; omega

set_option maxRecDepth 100000 in
theorem dct_yes (a : Option Addr) (cap n c : Nat) (xs : List Int) (w : World) (hn : xs.length = n) (hm : mayD n) (h1 : 1 ≤ c) (h2 : c ≤ n) (hl : Lies w a xs) (hs : Small xs) (hq : Quar w) :
    Calls Tryd.prog 47 #[.int .i64 (c : Int), .slice a n cap] w fun e w' => ∃ g, e = .returned (.slice (some ⟨g, 0, none⟩) c c) ∧ Lies w' (some ⟨g, 0, none⟩) (dctL c xs) ∧ Below w.heap.size w w' := by
  obtain ⟨i0, hi, hz0, hz1, hz2⟩ := info_parts Tryd.info3
  have h16 := (mayD_le hm).2
  have HD := hide (show decide ((n : Int) = 4 ∨ (n : Int) = 8 ∨ (n : Int) = 16) = true by rw [mayD_dec]; exact decide_eq_true hm)
  have HL := hide hl
  have HN := hide hn
  have HS := hide hs
  have HM := hide hm
  have HQ := hide hq
  have g1 : ¬ (c : Int) < 1 := by omega
  have g2 : ¬ (n : Int) < (c : Int) := by omega
  clear hl hn hs hm hq
  go_enter Tryd.func47, Tryd.ntmps47
  go_wp2_with fail
  obtain ⟨W0, hW0⟩ : ∃ W0, (w.alloc (.cells #[.slice a n cap] 24)).alloc (.cells #[.int .i64 (n : Int)] 3) = W0 := ⟨_, rfl⟩
  have HE := hide (show EnvD W0 (w.heap.size + 1) w.heap.size a n cap by
    rw [← hW0]
    refine ⟨?_, ?_⟩
    · have := dct_new_one (w.alloc (.cells #[.slice a n cap] 24)) (.int .i64 (n : Int)) 3
      simpa using this
    · have := dct_new_one w (.slice a n cap) 24
      rw [← this]
      exact Below.heap_alloc _ _ _ (by simp))
  have HBW := hide (show Below w.heap.size w W0 by rw [← hW0]; exact (alloc_below w _).alloc (by simp) _)
  have HSZ := hide (show W0.heap.size = w.heap.size + 2 by rw [← hW0]; simp)
  rw [hW0]
  clear hW0
  refine (maybe_any (n : Int) W0).mono ?_
  rintro e w0 ⟨rfl, rfl⟩
  rw [unhide HD]
  have cbn := dct_cell_one (unhide HE).hn
  go_wp2_with (at_make; refine wpList_make_full _ rfl _ _ 24 rfl w0.heap.size 3 i0 (.int .i64 0) 1 Tryd.underlying24 hi hz0 hz1 _ _ _ _ c rfl rfl rfl rfl ?m1 ?m2 ?m3 ?_)
  case m1 => rw [hz2]; omega
  case m2 => unfold maxLen; omega
  case m3 => exact Nat.le_refl _
  intro w1 hown hgr
  rw [ints_zero, dfill_zero c fun k => coefI k xs] at hown
  have HO := hide (own_cells hown)
  have HB := hide ((Below.refl w0.heap.size w0).grown hgr (Nat.le_refl _) (fun _ h => by cases h))
  clear hown hgr
  go_wp2
  have HB0 := hide (below_trans (unhide HBW) (unhide HB))
  generalize decide ((c : Int) < 1) = dd
  go_loopw [28] (fun i wr => ∃ k : Nat, k ≤ c ∧ i = .int .i64 (k : Int) ∧ Hid (Cells wr w0.heap.size (ints (dfillL c (fun k => coefI k xs) k))) ∧ Hid (Below w0.heap.size w0 wr))
    (fun i _ => c - (intOf i).toNat)
  case atStart => exact ⟨0, by omega, rfl, HO, HB⟩
  case round =>
    obtain ⟨k, hk, rfl, HOr, HBr⟩ := hrel
    by_cases hlt : k < c
    · obtain ⟨z, hz⟩ : ∃ z, coefI k xs = z := ⟨_, rfl⟩
      have HX := hide (dfill_set c (fun k => coefI k xs) k z hlt hz)
      have hbw := below_trans (unhide HBW) (unhide HBr)
      have HC : Hid (Calls Tryd.prog 66 #[.int .i64 (k : Int), .pointer (some ⟨w.heap.size + 1, 0, none⟩), .pointer (some ⟨w.heap.size, 0, none⟩)] wr fun e w' => e = .returned (.int .i64 z) ∧ Below wr.heap.size wr w') := by
        rw [← hz]
        exact coef_any (w.heap.size + 1) w.heap.size a cap n k xs wr (unhide HN) (unhide HM) (by omega) ((unhide HE).below (unhide HBr)) ((unhide HL).below hbw) (unhide HS) ((unhide HQ).below hbw)
      clear hz hbw HO HB cbn
      go_wp2_with fail
      refine (unhide HC).mono ?_
      rintro e w2 ⟨rfl, hb2⟩
      have HB2 := hide ((unhide HBr).trans (hb2.mono (unhide HBr).size))
      have HO2 := hide ((unhide HOr).below hb2)
      have hcell := (unhide HO2).cell k _ (ints_at _ k (by rw [dfill_len]; exact hlt))
      have hfree := (unhide HO2).free k
      clear hb2 HOr HBr HC
      go_wp2
      go_roundw
      case rel =>
        refine ⟨k + 1, by omega, by simp, ?_, (unhide HB2).setCell (Nat.le_refl _) _⟩
        have := (unhide HO2).set k (.int .i64 z)
        rw [ints_set, unhide HX] at this
        exact this
      case measure => simp [intOf]; omega
    · obtain rfl : k = c := by omega
      rw [dfill_all] at HOr
      have HL5 := hide (unhide HOr).lies
      have HB5 := hide (below_trans (unhide HBW) (unhide HBr))
      clear HOr HO
      go_wp2
      go_ret
      exact ⟨_, rfl, unhide HL5, unhide HB5⟩

theorem dct_no (c : Int) (a : Option Addr) (cap n : Nat) (w : World) (hn63 : n ≤ 9223372036854775807) (h : ¬ (mayD n ∧ 1 ≤ c ∧ c ≤ (n : Int))) :
    Calls Tryd.prog 47 #[.int .i64 c, .slice a n cap] w (Told [] w) := by
  obtain ⟨W0, hW0⟩ : ∃ W0, (w.alloc (.cells #[.slice a n cap] 24)).alloc (.cells #[.int .i64 (n : Int)] 3) = W0 := ⟨_, rfl⟩
  have cbn : W0.cell? ⟨w.heap.size + 1, 0, none⟩ = some (.int .i64 (n : Int)) := by
    rw [← hW0]
    refine dct_cell_one (t := 3) ?_
    have := dct_new_one (w.alloc (.cells #[.slice a n cap] 24)) (.int .i64 (n : Int)) 3
    simpa using this
  have HBW := hide (show Below w.heap.size w W0 by rw [← hW0]; exact (alloc_below w _).alloc (by simp) _)
  obtain ⟨d, hd⟩ : ∃ d, decide ((n : Int) = 4 ∨ (n : Int) = 8 ∨ (n : Int) = 16) = d := ⟨_, rfl⟩
  have HD := hide hd
  go_enter Tryd.func47, Tryd.ntmps47
  go_wp2_with fail
  clear hW0
  refine (maybe_any (n : Int) W0).mono ?_
  rintro e w0 ⟨rfl, rfl⟩
  rw [unhide HD]
  cases d
  · clear h hd
    go_wp2
    go_ret
    exact ⟨none, 0, 0, rfl, rfl, .inl rfl, unhide HBW⟩
  · rw [mayD_dec] at hd
    have hm : mayD n := of_decide_eq_true hd
    clear hd
    by_cases c1 : c < 1
    · clear h
      go_wp2
      go_ret
      exact ⟨none, 0, 0, rfl, rfl, .inl rfl, unhide HBW⟩
    · have c2 : (n : Int) < c := by
        by_cases e : (n : Int) < c
        · exact e
        · exact absurd ⟨hm, by omega, by omega⟩ h
      clear h hm
      go_wp2
      go_ret
      exact ⟨none, 0, 0, rfl, rfl, .inl rfl, unhide HBW⟩

theorem dct_any (c : Int) (a : Option Addr) (cap n : Nat) (xs : List Int) (w : World) (hn : xs.length = n) (hn63 : n ≤ 9223372036854775807) (hl : Lies w a xs) (hs : Small xs) (hq : Quar w) :
    Calls Tryd.prog 47 #[.int .i64 c, .slice a n cap] w (Told (dctI c xs) w) := by
  by_cases h : mayD n ∧ 1 ≤ c ∧ c ≤ (n : Int)
  · obtain ⟨c', rfl⟩ : ∃ c' : Nat, c = (c' : Int) := ⟨c.toNat, by omega⟩
    rw [dctI_yes c' n xs hn h.1 (by omega) (by omega)]
    refine (dct_yes a cap n c' xs w hn h.1 (by omega) (by omega) hl hs hq).mono ?_
    rintro e w' ⟨g, rfl, hl', hb⟩
    exact ⟨_, _, _, rfl, dct_len c' xs, hl', hb⟩
  · rw [dctI_no c n xs hn h]
    exact dct_no c a cap n w hn63 h

theorem dct_row_all (a : Option Addr) (len cap : Nat) (zs : List Int) (w : World) (h : IsRow .i64 w a len cap zs) :
    ∃ xs : List Int, xs.length = len ∧ len ≤ 9223372036854775807 ∧ Lies w a xs ∧ Small xs := by
  rcases h with ⟨rfl, rfl, rfl, rfl⟩ | ⟨x, rfl, hl, hm, hz, hcell, hwz⟩
  · exact ⟨[], by simp, by omega, .inl rfl, by intro x hx; simp at hx⟩
  · unfold maxLen at hm
    exact ⟨zs.take len, by rw [List.length_take]; omega, by omega, lies_of_row len (by omega) hcell, small_take len hwz⟩

theorem mk_take (n k : Nat) (f : Nat → Int) (h : k ≤ n) : (mkL n f).take k = mkL k f := by
  simp [mkL, ← List.map_take, List.take_range, Nat.min_eq_left h]

theorem dlies_take {w : World} {a : Option Addr} {xs : List Int} (h : Lies w a xs) (n : Nat) : Lies w a (xs.take n) := by
  rcases h with rfl | ⟨b, off, ha, hlt, hc⟩
  · exact .inl (by simp)
  · refine .inr ⟨b, off, ha, hlt, fun j hj => ?_⟩
    rw [List.length_take] at hj
    rw [hc j (by omega)]
    congr 2
    simp [List.getD_eq_getElem?_getD, show j < n by omega]

/-- The first j places as f says, the others as g. -/
def dmixF (n : Nat) (f g : Nat → Int) (j : Nat) : List Int := mkL n fun i => if i < j then f i else g i

theorem dmixF_len (n : Nat) (f g : Nat → Int) (j : Nat) : (dmixF n f g j).length = n := mkL_len _ _

theorem dmixF_zero (n : Nat) (f g : Nat → Int) : dmixF n f g 0 = mkL n g := mkL_congr _ _ _ fun i hi => by rw [if_neg (by omega)]

theorem dmixF_all (n : Nat) (f g : Nat → Int) : dmixF n f g n = mkL n f := mkL_congr _ _ _ fun i hi => by rw [if_pos hi]

theorem dmixF_at (n : Nat) (f g : Nat → Int) (j : Nat) (h : j < n) : (dmixF n f g j).getD j 0 = g j := by
  unfold dmixF; rw [mkL_at _ _ _ h, if_neg (by omega)]

theorem dmixF_set (n : Nat) (f g : Nat → Int) (j : Nat) (z : Int) (h : j < n) (hz : f j = z) : (dmixF n f g j).set j z = dmixF n f g (j + 1) := by
  symm
  refine mkL_eq _ _ _ (by rw [List.length_set, dmixF_len]) fun i hi => ?_
  rw [getD_set, dmixF_len]
  by_cases e : i = j
  · subst e; rw [if_pos (Nat.lt_succ_self i), if_pos ⟨rfl, h⟩, hz]
  · rw [if_neg (fun c : j = i ∧ _ => e c.1.symm), dmixF, mkL_at _ _ _ hi]
    by_cases c : i < j
    · rw [if_pos c, if_pos (by omega)]
    · rw [if_neg c, if_neg (by omega)]

theorem cells_other {w : World} {g c i : Nat} {l : List Value} {x : Value} (h : Cells w g l) (hg : g ≠ c) : Cells (w.setCell ⟨c, i, none⟩ x) g l := by
  obtain ⟨t, h⟩ := h
  exact ⟨t, by rw [Below.heap_setCell _ _ _ _ hg]; exact h⟩
end Go.Proofs.YtbkdgpeooeokmaaDoor
