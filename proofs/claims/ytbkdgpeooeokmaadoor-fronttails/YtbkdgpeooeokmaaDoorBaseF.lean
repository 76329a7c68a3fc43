/- Contracts of the layers below over this seat, and the mathematics of fronts. Family F. -/
import Derived.Test.YtbkdgpeooeokmaaDoorBase0
import Derived.WalkKit
import Derived.WalkSpells
import Derived.WalkLawsBesides
import Derived.Deep.RegionWith
import Derived.Laws.AppendOwnNone
import Derived.Deep.RegionHeld3
import Derived.Deep.AppendLies
import Derived.Lib.BitFns
import Derived.Lib.Small
import Derived.Lib.Walk
import Derived.Laws.IdiomStrings
import Derived.Orders
import Derived.Deep.LoopGhost
import Derived.Laws.CopyOwn
import Derived.Deep.OwnRows
import Derived.Deep.QuietTactic
import Derived.BigQuiet
import Derived.ProofKit
import Derived.OpenShut
import Derived.Deep.Slices
import Derived.Deep.Strs
import Derived.BigRegion
import Derived.Laws.EntriesVeiled
import Derived.Deep.RegionLaw
namespace Go.Proofs.YtbkdgpeooeokmaaDoor
open Go.RowKit
set_option linter.unusedVariables false

theorem small_mk (n : Nat) (f : Nat → Int) (h : ∀ i, i < n → In64 (f i)) : Small (mkL n f) := by
  intro x hx
  obtain ⟨i, hi, rfl⟩ := List.mem_map.1 hx
  exact h i (by simpa using hi)

theorem in_w64 (n : Int) : In64 (wrap64 n) := by unfold wrap64 In64; omega

def neg64 (x : Int) : Int := wrap64 (-x)

theorem neg_neg64 (x : Int) (h : In64 x) : neg64 (neg64 x) = x := by obtain ⟨h1, h2⟩ := h; unfold neg64 wrap64; omega

theorem neg_in (x : Int) : In64 (neg64 x) := in_w64 _

theorem w64_zero : wrap64 0 = 0 := by decide +kernel

/-- The numbers of a spin, and on beyond its ends: with the sign turned, round and round. -/
def ext (xs : List Int) (m : Int) : Int :=
  if m % (2 * (xs.length : Int)) < xs.length then xs.getD (m % (2 * (xs.length : Int))).toNat 0 else neg64 (xs.getD ((m % (2 * (xs.length : Int))).toNat - xs.length) 0)

def turnL (xs : List Int) (k : Int) : List Int := mkL xs.length fun i => ext xs ((i : Int) - k)

theorem turn_len (xs : List Int) (k : Int) : (turnL xs k).length = xs.length := mkL_len _ _

theorem ext_in (xs : List Int) (m : Int) (h : Small xs) : In64 (ext xs m) := by
  unfold ext; split
  · exact h.all _
  · exact neg_in _

theorem turn_small (xs : List Int) (k : Int) (h : Small xs) : Small (turnL xs k) := small_mk _ _ fun i _ => ext_in _ _ h

theorem ext_of (xs : List Int) (m : Int) (r : Nat) (h : m % (2 * (xs.length : Int)) = r) : ext xs m = if r < xs.length then xs.getD r 0 else neg64 (xs.getD (r - xs.length) 0) := by
  unfold ext; rw [h]
  by_cases c : r < xs.length
  · rw [if_pos c, if_pos (by omega)]; simp
  · rw [if_neg c, if_neg (by omega)]; simp

theorem mod_of {m n : Int} (r : Int) (q : Int) (h : m = r + n * q) (h0 : 0 ≤ r) (h1 : r < n) : m % n = r := by
  subst h; rw [Int.add_mul_emod_self_left]; exact Int.emod_eq_of_lt h0 h1

theorem ext_congr (xs : List Int) (m n : Int) (h : m % (2 * (xs.length : Int)) = n % (2 * (xs.length : Int))) : ext xs m = ext xs n := by unfold ext; rw [h]

theorem ext_half (xs : List Int) (m : Int) (h : Small xs) (h0 : 0 < xs.length) : ext xs (m + xs.length) = neg64 (ext xs m) := by
  obtain ⟨r, hr⟩ : ∃ r : Nat, m % (2 * (xs.length : Int)) = r := ⟨(m % (2 * (xs.length : Int))).toNat, by have := Int.emod_nonneg m (b := 2 * (xs.length : Int)) (by omega); omega⟩
  have hlt : r < 2 * xs.length := by have := Int.emod_lt_of_pos m (b := 2 * (xs.length : Int)) (by omega); omega
  have hm := Int.mul_ediv_add_emod m (2 * (xs.length : Int))
  rw [hr] at hm
  rw [ext_of xs m r hr]
  by_cases c : r < xs.length
  · rw [ext_of xs (m + xs.length) (r + xs.length) (mod_of _ (m / (2 * (xs.length : Int))) (by omega) (by omega) (by omega)), if_neg (by omega), if_pos c]
    simp
  · rw [ext_of xs (m + xs.length) (r - xs.length) (mod_of _ (m / (2 * (xs.length : Int)) + 1) (by rw [Int.mul_add]; omega) (by omega) (by omega)), if_pos (by omega), if_neg c, neg_neg64 _ (h.all _)]

theorem ext_turn (xs : List Int) (a m : Int) (h : Small xs) (h0 : 0 < xs.length) : ext (turnL xs a) m = ext xs (m - a) := by
  obtain ⟨r, hr⟩ : ∃ r : Nat, m % (2 * (xs.length : Int)) = r := ⟨(m % (2 * (xs.length : Int))).toNat, by have := Int.emod_nonneg m (b := 2 * (xs.length : Int)) (by omega); omega⟩
  have hlt : r < 2 * xs.length := by have := Int.emod_lt_of_pos m (b := 2 * (xs.length : Int)) (by omega); omega
  have hm : (m - a) % (2 * (xs.length : Int)) = ((r : Int) - a) % (2 * (xs.length : Int)) := by
    rw [← hr]; exact (Int.emod_sub_cancel_right a).2 (Int.emod_emod _ _).symm
  rw [ext_of (turnL xs a) m r (by rw [turn_len]; exact hr), turn_len]
  by_cases c : r < xs.length
  · rw [if_pos c]; unfold turnL; rw [mkL_at _ _ _ c]; exact (ext_congr xs _ _ hm).symm
  · rw [if_neg c]; unfold turnL; rw [mkL_at _ _ _ (by omega), ← ext_half xs _ h h0, ext_congr xs _ _ hm]; congr 1; omega

theorem turn_turn (xs : List Int) (a b : Int) (h : Small xs) : turnL (turnL xs a) b = turnL xs (a + b) := by
  by_cases h0 : 0 < xs.length
  · show mkL (turnL xs a).length _ = _
    rw [turn_len]
    refine mkL_congr _ _ _ fun i _ => ?_
    rw [ext_turn xs a _ h h0]; congr 1; omega
  · have : xs = [] := List.length_eq_zero_iff.1 (by omega)
    subst this; rfl

/-- Where number t goes, and with which sign. -/
def plc (h R t : Nat) : Nat := if t + R < h then t + R else if t + R < 2 * h then t + R - h else t + R - 2 * h

def vlu (xs : List Int) (R t : Nat) : Int := if t + R < xs.length then xs.getD t 0 else if t + R < 2 * xs.length then neg64 (xs.getD t 0) else xs.getD t 0

theorem plc_lt (h R t : Nat) (hR : R < 2 * h) (ht : t < h) : plc h R t < h := by
  unfold plc
  repeat' split
  all_goals omega

theorem plc_ne (h R t u : Nat) (hR : R < 2 * h) (ht : t < h) (hu : u < h) (hne : t ≠ u) : plc h R t ≠ plc h R u := by
  unfold plc
  repeat' split
  all_goals omega

theorem placed (xs L : List Int) (k : Int) (n R : Nat) (hn : xs.length = n) (hR : k % (2 * (n : Int)) = R) (hlt : R < 2 * n) (hl : L.length = n) (h : ∀ t, t < n → L.getD (plc n R t) 0 = vlu xs R t) : L = turnL xs k := by
  refine list_same (by rw [turn_len, hn, hl]) fun i hi => ?_
  rw [hl] at hi
  unfold turnL
  rw [hn, mkL_at _ _ _ hi]
  have hm : ((i : Int) - k) % (2 * (n : Int)) = ((i : Int) - R) % (2 * (n : Int)) := by
    rw [← hR, Int.sub_emod, Int.sub_emod (i : Int) (k % _), Int.emod_emod]
  by_cases c1 : R ≤ i
  · have := h (i - R) (by omega)
    rw [show plc n R (i - R) = i by unfold plc; rw [if_pos (by omega)]; omega] at this
    rw [this, ext_of xs _ (i - R) (by rw [hn, hm]; exact mod_of _ 0 (by omega) (by omega) (by omega)), if_pos (by omega)]
    unfold vlu; rw [if_pos (by omega)]
  · by_cases c2 : R ≤ i + n
    · have := h (i + n - R) (by omega)
      rw [show plc n R (i + n - R) = i by unfold plc; rw [if_neg (by omega), if_pos (by omega)]; omega] at this
      rw [this, ext_of xs _ (i + 2 * n - R) (by rw [hn, hm]; exact mod_of _ (-1) (by omega) (by omega) (by omega)), if_neg (by omega)]
      unfold vlu; rw [if_neg (by omega), if_pos (by omega), show i + 2 * n - R - xs.length = i + n - R by omega]
    · have := h (i + 2 * n - R) (by omega)
      rw [show plc n R (i + 2 * n - R) = i by unfold plc; rw [if_neg (by omega), if_neg (by omega)]; omega] at this
      rw [this, ext_of xs _ (i + 2 * n - R) (by rw [hn, hm]; exact mod_of _ (-1) (by omega) (by omega) (by omega)), if_pos (by omega)]
      unfold vlu; rw [if_neg (by omega), if_neg (by omega)]

def add2 (xs ys : List Int) : List Int := mkL xs.length fun i => wrap64 (xs.getD i 0 + ys.getD i 0)

theorem add2_len (xs ys : List Int) : (add2 xs ys).length = xs.length := mkL_len _ _

theorem add2_at (xs ys : List Int) (i : Nat) (h : i < xs.length) : (add2 xs ys).getD i 0 = wrap64 (xs.getD i 0 + ys.getD i 0) := mkL_at _ _ _ h

theorem zero_at (n i : Nat) : (List.replicate n (0 : Int)).getD i 0 = 0 := by
  rw [List.getD_eq_getElem?_getD, List.getElem?_replicate]; split <;> rfl

theorem add2_zero (n : Nat) (xs : List Int) (hn : xs.length = n) (h : Small xs) : add2 (List.replicate n 0) xs = xs :=
  mkL_eq _ _ _ (by simp [hn]) fun i hi => by rw [zero_at, Int.zero_add, w64_in (h.all i)]

def lessL (xs ys : List Int) : List Int := add2 xs (turnL ys (ys.length : Int))

/-- The sum of rows, one behind the other. -/
def addAll (n : Nat) (rows : List (List Int)) : List Int := rows.foldl add2 (List.replicate n 0)

theorem addAll_len (n : Nat) : ∀ (rows : List (List Int)), (addAll n rows).length = n := by
  intro rows
  have : ∀ (rows : List (List Int)) (l : List Int), (rows.foldl add2 l).length = l.length := by
    intro rows
    induction rows with
    | nil => intro l; rfl
    | cons r rs ih => intro l; rw [List.foldl_cons, ih, add2_len]
  unfold addAll; rw [this]; simp

theorem addAll_succ (n : Nat) (rows : List (List Int)) (k : Nat) (h : k < rows.length) : addAll n (rows.take (k + 1)) = add2 (addAll n (rows.take k)) (rows.getD k []) := by
  unfold addAll
  rw [List.take_succ_eq_append_getElem h, List.foldl_append]
  simp [List.getD_eq_getElem?_getD, List.getElem?_eq_getElem h]

/-- Numbers that are the same at 64 bits. -/
def Cg (a b : Int) : Prop := ∃ t : Int, a = b + 18446744073709551616 * t

theorem cg_wrap {a b : Int} (h : Cg a b) : wrap64 a = wrap64 b := by obtain ⟨t, rfl⟩ := h; unfold wrap64; omega

theorem cg_of (a : Int) : Cg (wrap64 a) a := ⟨-((a + 9223372036854775808) / 18446744073709551616), by unfold wrap64; omega⟩

theorem Cg.mul {a b : Int} (h : Cg a b) (c : Int) : Cg (a * c) (b * c) := by
  obtain ⟨t, rfl⟩ := h; exact ⟨t * c, by rw [Int.add_mul, Int.mul_assoc]⟩

theorem Cg.plus {a b c d : Int} (h : Cg a b) (k : Cg c d) : Cg (a + c) (b + d) := by
  obtain ⟨t, rfl⟩ := h; obtain ⟨s, rfl⟩ := k; exact ⟨t + s, by omega⟩

theorem Cg.refl (a : Int) : Cg a a := ⟨0, by omega⟩

theorem Cg.trans {a b c : Int} (h : Cg a b) (k : Cg b c) : Cg a c := by
  obtain ⟨t, rfl⟩ := h; obtain ⟨s, rfl⟩ := k; exact ⟨t + s, by omega⟩

/-- A size that may be. -/
def mayN (n : Nat) : Prop := n = 1 ∨ n = 2 ∨ n = 4 ∨ n = 8 ∨ n = 16 ∨ n = 32
instance (n : Nat) : Decidable (mayN n) := by unfold mayN; infer_instance

/-- The sum of numbers, each weighed by its place. -/
def wgh (c : Nat → Int) (xs : List Int) (k : Nat) : Int := sumF (fun j => xs.getD j 0 * c (j * 32 / xs.length)) k

def cosC (q : Nat) : Int := cosI (q : Int)

def sinC (q : Nat) : Int := -sinI (q : Int)

def partI (c : Nat → Int) (xs : List Int) : Int := if mayN xs.length then wrap64 (wgh c xs xs.length) else 0

theorem place_step (xs L : List Int) (n R j p : Nat) (v : Int) (hn : xs.length = n) (hl : L.length = n ∧ ∀ t, t < j → L.getD (plc n R t) 0 = vlu xs R t) (hj : j < n) (hR : R < 2 * n) (hp : plc n R j = p) (hv : vlu xs R j = v) :
    (L.set p v).length = n ∧ ∀ t, t < j + 1 → (L.set p v).getD (plc n R t) 0 = vlu xs R t := by
  refine ⟨by rw [List.length_set]; exact hl.1, fun t ht => ?_⟩
  rw [getD_set]
  by_cases c : t = j
  · subst c
    rw [if_pos ⟨hp.symm, by rw [hl.1]; exact plc_lt n R t hR hj⟩, hv]
  · rw [if_neg (by rw [← hp]; exact fun h => plc_ne n R j t hR hj (by omega) (Ne.symm c) h.1), hl.2 t (by omega)]

theorem place_end (xs L : List Int) (n R : Nat) (k : Int) (hn : xs.length = n) (hl : L.length = n ∧ ∀ t, t < n → L.getD (plc n R t) 0 = vlu xs R t) (hR : 0 < n → R < 2 * n) (hk : 0 < n → k % (2 * (n : Int)) = R) : L = turnL xs k := by
  by_cases h0 : 0 < n
  · exact placed xs L k n R hn (hk h0) (hR h0) hl.1 hl.2
  · have h1 : L = [] := List.length_eq_zero_iff.1 (by omega)
    have h2 : xs = [] := List.length_eq_zero_iff.1 (by omega)
    subst h1 h2; rfl

theorem new_one (w : World) (v : Value) (t : TypeId) : (w.alloc (.cells #[v] t)).heap[w.heap.size]? = some (.cells #[v] t (0, 0)) := by
  show (w.heap.push _)[w.heap.size]? = _
  simp

theorem goes_any (j R n : Nat) (b1 b2 : Nat) (w : World) (hj : j < n) (hR : R < 2 * n) (hn : n ≤ 1000000) (h1 : w.heap[b1]? = some (.cells #[.int .i64 (R : Int)] 3 (0, 0))) (h2 : w.heap[b2]? = some (.cells #[.int .i64 (2 * (n : Int))] 3 (0, 0))) :
    Calls Tryd.prog 93 #[.int .i64 (j : Int), .pointer (some ⟨b1, 0, none⟩), .pointer (some ⟨b2, 0, none⟩)] w fun e w' => e = .returned (.int .i64 (((j + R) % (2 * n) : Nat) : Int)) ∧ Below w.heap.size w w' := by
  have c1 := cell_of_one h1
  have c2 := cell_of_one h2
  have HV := hide (show remI ((j : Int) + R) (2 * (n : Int)) = (((j + R) % (2 * n) : Nat) : Int) by rw [remI_pos _ _ (by omega), Int.natCast_emod]; congr 1)
  go_enter Tryd.func93, Tryd.ntmps93
  go_wp2_with fail
  refine (parts_any ((j : Int) + R) (2 * (n : Int)) _ (by unfold In64; omega) (by unfold In64; omega)).mono ?_
  rintro e w1 ⟨rfl, hb⟩
  go_wp2
  go_ret
  exact ⟨ret_int (unhide HV), hb⟩

set_option maxRecDepth 100000 in
theorem spin_moved_any (a : Option Addr) (cap : Nat) (xs : List Int) (n R b1 b2 : Nat) (k : Int) (w : World) (hl : Lies w a xs) (hs : Small xs) (hn : xs.length = n) (hR : 0 < n → R < 2 * n) (hm : n ≤ 1000000) (h1 : w.heap[b1]? = some (.cells #[.int .i64 (R : Int)] 3 (0, 0))) (h2 : w.heap[b2]? = some (.cells #[.int .i64 (2 * (n : Int))] 3 (0, 0))) (hk : 0 < n → k % (2 * (n : Int)) = R) :
    Calls Tryd.prog 92 #[.slice a n cap, .func (.func 93) #[] #[.pointer (some ⟨b1, 0, none⟩), .pointer (some ⟨b2, 0, none⟩)]] w fun e w' => ∃ g, e = .returned (.slice (some ⟨g, 0, none⟩) n n) ∧ w.heap.size ≤ g ∧ Cells w' g (ints (turnL xs k)) ∧ Below w.heap.size w w' := by
  obtain ⟨i0, hi, hz0, hz1, hz2⟩ := info_parts Tryd.info3
  have HL := hide hl
  have HN := hide hn
  have HS := hide hs
  have H1 := hide h1
  have H2 := hide h2
  have HK := hide hk
  have HR := hide hR
  clear hl hn hs h1 h2 hk hR
  go_enter Tryd.func92, Tryd.ntmps92
  go_wp2_with (at_make; refine wpList_make_full _ rfl _ _ 24 rfl w.heap.size 3 i0 (.int .i64 0) 1 Tryd.underlying24 hi hz0 hz1 _ _ _ _ n rfl rfl rfl rfl ?m1 ?m2 ?m3 ?_)
  case m1 => rw [hz2]; omega
  case m2 => unfold maxLen; omega
  case m3 => exact Nat.le_refl _
  intro w1 hown hgr
  rw [ints_zero] at hown
  have HO := hide (own_cells hown)
  have HB := hide ((Below.refl w.heap.size w).grown hgr (Nat.le_refl _) (fun _ h => by cases h))
  clear hown hgr
  go_wp2
  go_loopw [14] (fun i wr => ∃ (j : Nat) (L : List Int), j ≤ n ∧ i = .int .i64 (j : Int) ∧ Hid (Cells wr w.heap.size (ints L)) ∧ Hid (L.length = n ∧ ∀ t, t < j → L.getD (plc n R t) 0 = vlu xs R t) ∧ Hid (Below w.heap.size w wr))
    (fun i _ => n - (intOf i).toNat)
  case atStart => exact ⟨0, List.replicate n 0, by omega, rfl, HO, ⟨by simp, fun t h => absurd h (Nat.not_lt_zero _)⟩, HB⟩
  case round =>
    obtain ⟨j, L, hj, rfl, HOr, HLr, HBr⟩ := hrel
    by_cases hlt : j < n
    · have hR2 := unhide HR (by omega)
      obtain ⟨ba, oa, rfl, hlta, hca⟩ := (unhide HL).some (by intro h; have := unhide HN; subst h; simp at this; omega)
      have cx : wr.cell? ⟨ba, oa + j, none⟩ = some (.int .i64 (xs.getD j 0)) := by rw [(unhide HBr).cell (p := ⟨ba, _, none⟩) hlta]; exact hca j (by rw [unhide HN]; exact hlt)
      have hx := (unhide HS).all j
      obtain ⟨x, hxx⟩ : ∃ x, xs.getD j 0 = x := ⟨_, rfl⟩
      rw [hxx] at cx hx
      have HX := hide hxx
      clear hca hxx HO HB
      go_wp2_with fail
      refine (goes_any j R n b1 b2 _ hlt hR2 hm ((((unhide HBr).block b1 (Array.getElem?_eq_some_iff.1 (unhide H1)).1)).trans (unhide H1)) ((((unhide HBr).block b2 (Array.getElem?_eq_some_iff.1 (unhide H2)).1)).trans (unhide H2))).mono ?_
      rintro e w2 ⟨rfl, hb2⟩
      have HB2 := hide ((unhide HBr).trans (hb2.mono (unhide HBr).size))
      have HO2 := hide ((unhide HOr).below hb2)
      obtain ⟨p, hp⟩ : ∃ p, (j + R) % (2 * n) = p := ⟨_, rfl⟩
      rw [hp]
      have hp2 : p = if j + R < 2 * n then j + R else j + R - 2 * n := by
        rw [← hp]; split
        · rw [Nat.mod_eq_of_lt (by assumption)]
        · rw [Nat.mod_eq_sub_mod (by omega), Nat.mod_eq_of_lt (by omega)]
      have hplt : p < 2 * n := by rw [← hp]; exact Nat.mod_lt _ (by omega)
      have HP := hide hp2
      clear hp hp2 HBr HOr hb2
      by_cases c : p < n
      · have hcell := (unhide HO2).cell p _ (ints_at _ p (by rw [(unhide HLr).1]; exact c))
        have hfree := (unhide HO2).free p
        go_wp2
        go_roundw
        case rel =>
          refine ⟨j + 1, L.set p x, by omega, by simp, ?_, ?_, (unhide HB2).setCell (Nat.le_refl _) _⟩
          · have := (unhide HO2).set p (.int .i64 x)
            rw [ints_set] at this
            exact this
          · have hp := unhide HP
            refine place_step xs L n R j p x (unhide HN) (unhide HLr) hlt hR2 ?_ ?_
            · unfold plc; repeat' split
              all_goals (split at hp <;> omega)
            · unfold vlu
              rw [unhide HN, unhide HX]
              repeat' split
              all_goals (first | rfl | (exfalso; split at hp <;> omega))
        case measure => simp [intOf]; omega
      · obtain ⟨q, hq⟩ : ∃ q, p = q + n := ⟨p - n, by omega⟩
        subst hq
        have hcell := (unhide HO2).cell q _ (ints_at _ q (by rw [(unhide HLr).1]; omega))
        have hfree := (unhide HO2).free q
        go_wp2
        go_roundw
        case rel =>
          refine ⟨j + 1, L.set q (neg64 x), by omega, by simp, ?_, ?_, (unhide HB2).setCell (Nat.le_refl _) _⟩
          · have := (unhide HO2).set q (.int .i64 (neg64 x))
            rw [ints_set] at this
            exact this
          · have hp := unhide HP
            refine place_step xs L n R j q (neg64 x) (unhide HN) (unhide HLr) hlt hR2 ?_ ?_
            · unfold plc; repeat' split
              all_goals (split at hp <;> omega)
            · unfold vlu
              rw [unhide HN, unhide HX]
              repeat' split
              all_goals (first | rfl | (exfalso; split at hp <;> omega))
        case measure => simp [intOf]; omega
    · obtain rfl : j = n := by omega
      go_wp2
      go_ret
      refine ⟨_, rfl, Nat.le_refl _, ?_, unhide HBr⟩
      rw [← place_end xs L j R k (unhide HN) (unhide HLr) (unhide HR) (unhide HK)]
      exact unhide HOr

theorem sturn_any (a : Option Addr) (cap : Nat) (xs : List Int) (n : Nat) (k : Int) (w : World) (hl : Lies w a xs) (hs : Small xs) (hn : xs.length = n) (hm : n ≤ 1000000) (hk : In64 k) :
    Calls Tryd.prog 83 #[.slice a n cap, .int .i64 k] w fun e w' => ∃ g, e = .returned (.slice (some ⟨g, 0, none⟩) n n) ∧ w.heap.size ≤ g ∧ Cells w' g (ints (turnL xs k)) ∧ Below w.heap.size w w' := by
  have HL := hide hl
  clear hl
  go_enter Tryd.func83, Tryd.ntmps83
  go_wp2_with fail
  refine (parts_any k (2 * (n : Int)) _ hk (by unfold In64; omega)).mono ?_
  rintro e w1 ⟨rfl, hb⟩
  obtain ⟨R, hR, hR2, hR3⟩ : ∃ R : Nat, remI k (2 * (n : Int)) = R ∧ (0 < n → R < 2 * n) ∧ (0 < n → k % (2 * (n : Int)) = R) := by
    by_cases h0 : 0 < n
    · have h1 := rem_bd k (2 * (n : Int)) (by omega)
      exact ⟨(k % (2 * (n : Int))).toNat, by rw [remI_pos _ _ (by omega)]; omega, fun _ => by omega, fun _ => by omega⟩
    · exact ⟨0, by rw [remI_no _ _ (by omega)]; rfl, fun h => absurd h h0, fun h => absurd h h0⟩
  rw [hR]
  have HB1 := hide (((Below.refl w.heap.size w).alloc (Nat.le_refl _) (.cells #[.int .i64 (2 * (n : Int))] 3)).trans (hb.mono (by simp)))
  have HT := hide (show w1.heap[w.heap.size]? = some (.cells #[.int .i64 (2 * (n : Int))] 3 (0, 0)) by rw [hb.block _ (by simp)]; exact new_one _ _ _)
  have HS := hide hs
  have HN := hide hn
  have HR2 := hide hR2
  have HR3 := hide hR3
  clear hb hR hs hn hR2 hR3
  go_wp2_with fail
  refine (spin_moved_any a cap xs n R w1.heap.size w.heap.size k _ ?_ (unhide HS) (unhide HN) (unhide HR2) hm (new_one _ _ _) ?_ (unhide HR3)).mono ?_
  · exact ((unhide HL).below (unhide HB1)).below ((Below.refl _ w1).alloc (Nat.le_refl _) _)
  · rw [((Below.refl w1.heap.size w1).alloc (Nat.le_refl _) (.cells #[.int .i64 (R : Int)] 3)).block _ (Array.getElem?_eq_some_iff.1 (unhide HT)).1]; exact unhide HT
  rintro e w2 ⟨g, rfl, hg, hc, hb2⟩
  have HG := hide (show w.heap.size ≤ g by have := (unhide HB1).size; simp at hg; omega)
  have HC := hide hc
  have HB2 := hide (((unhide HB1).alloc (unhide HB1).size (.cells #[.int .i64 (R : Int)] 3)).trans (hb2.mono (by have := (unhide HB1).size; simp; omega)))
  clear hc hb2 hg
  go_wp2
  go_ret
  exact ⟨_, rfl, unhide HG, unhide HC, unhide HB2⟩

theorem maybe_yes (n : Nat) (w : World) (h : mayN n) : Calls Tryd.prog 86 #[.int .i64 (n : Int)] w fun e w' => e = .returned (.bool true) ∧ w' = w := by
  rcases h with rfl | rfl | rfl | rfl | rfl | rfl
  all_goals
    go_enter Tryd.func86, Tryd.ntmps86
    go_wp2
    go_ret
    exact ⟨rfl, rfl⟩

theorem maybe_no (n : Nat) (w : World) (h : ¬ mayN n) : Calls Tryd.prog 86 #[.int .i64 (n : Int)] w fun e w' => e = .returned (.bool false) ∧ w' = w := by
  unfold mayN at h
  have h1 : ((n : Int) == 1) = false := by simp; omega
  have h2 : ((n : Int) == 2) = false := by simp; omega
  have h3 : ((n : Int) == 4) = false := by simp; omega
  have h4 : ((n : Int) == 8) = false := by simp; omega
  have h5 : ((n : Int) == 16) = false := by simp; omega
  have h6 : ((n : Int) == 32) = false := by simp; omega
  clear h
  go_enter Tryd.func86, Tryd.ntmps86
  go_wp2
  go_ret
  exact ⟨rfl, rfl⟩

theorem msin_any (k : Int) (w : World) (hk : In64 k) (hq : Quar w) :
    Calls Tryd.prog 78 #[.int .i64 k] w fun e w' => e = .returned (.int .i64 (-sinI k)) ∧ Below w.heap.size w w' := by
  have H := hide (sin_any k w hk hq)
  have hbd := sinI_bd k
  obtain ⟨z, hz⟩ : ∃ z, sinI k = z := ⟨_, rfl⟩
  rw [hz] at H hbd ⊢
  clear hq hz
  go_enter Tryd.func78, Tryd.ntmps78
  go_wp2_with fail
  refine (unhide H).mono ?_
  rintro e w1 ⟨rfl, hb⟩
  go_wp2
  go_ret
  exact ⟨rfl, hb⟩

theorem place_bd (j n : Nat) (h : j < n) : j * 32 / n < 32 := (Nat.div_lt_iff_lt_mul (by omega)).2 (by omega)

set_option maxRecDepth 100000 in
theorem part_cos (a : Option Addr) (cap n : Nat) (xs : List Int) (w : World) (hl : Lies w a xs) (hs : Small xs) (hn : xs.length = n) (hq : Quar w) :
    Calls Tryd.prog 76 #[.slice a n cap, .func (.func 77) #[] #[]] w fun e w' => e = .returned (.int .i64 (partI cosC xs)) ∧ Below w.heap.size w w' := by
  by_cases m : mayN n
  · have HL := hide hl
    have HN := hide hn
    have HS := hide hs
    have HQ := hide hq
    have HE := hide (show partI cosC xs = wrap64 (wgh cosC xs n) by unfold partI; rw [hn, if_pos m])
    have hm : n ≤ 32 := by unfold mayN at m; omega
    have HM := hide m
    clear hl hn hs hq m
    go_enter Tryd.func76, Tryd.ntmps76
    go_wp2_with fail
    refine (maybe_yes n _ (unhide HM)).mono ?_
    rintro e w1 ⟨rfl, rfl⟩
    go_wp2
    go_loopw [14, 5] (fun i s wr => ∃ (j : Nat), j ≤ n ∧ i = .int .i64 (j : Int) ∧ s = .int .i64 (wrap64 (wgh cosC xs j)) ∧ Hid (Below w1.heap.size w1 wr))
      (fun i _ _ => n - (intOf i).toNat)
    case atStart => exact ⟨0, by omega, rfl, by show _ = Value.int .i64 (wrap64 0); rw [w64_zero], Below.refl _ _⟩
    case round =>
      obtain ⟨j, hj, rfl, rfl, HBr⟩ := hrel
      by_cases hlt : j < n
      · obtain ⟨ba, oa, rfl, hlta, hca⟩ := (unhide HL).some (by intro h; have := unhide HN; subst h; simp at this; omega)
        have cx : wr.cell? ⟨ba, oa + j, none⟩ = some (.int .i64 (xs.getD j 0)) := by rw [(unhide HBr).cell (p := ⟨ba, _, none⟩) hlta]; exact hca j (by rw [unhide HN]; exact hlt)
        obtain ⟨S, hS⟩ : ∃ S, wgh cosC xs j = S := ⟨_, rfl⟩
        obtain ⟨x, hx⟩ : ∃ x, xs.getD j 0 = x := ⟨_, rfl⟩
        obtain ⟨q, hq⟩ : ∃ q, j * 32 / n = q := ⟨_, rfl⟩
        have hq32 : q < 32 := by rw [← hq]; exact place_bd j n hlt
        have HT := hide (show (j : Int) * 32 / (n : Int) = (q : Int) by rw [← hq]; rfl)
        have HW := hide (show wgh cosC xs (j + 1) = S + x * cosC q by show sumF _ (j + 1) = _; rw [← hS, ← hx, ← hq, ← unhide HN]; rfl)
        rw [hx] at cx
        rw [hS]
        clear hca hS hx hq
        go_wp2_with fail
        rw [unhide HT]
        refine (cos_any (q : Int) _ (by unfold In64; omega) ((unhide HQ).below (unhide HBr))).mono ?_
        rintro e w2 ⟨rfl, hb⟩
        obtain ⟨z, hz⟩ : ∃ z, cosI (q : Int) = z := ⟨_, rfl⟩
        have hbd := cosI_bd (q : Int)
        rw [hz] at hbd ⊢
        have HZ := hide (show cosC q = z by rw [← hz]; rfl)
        have HB2 := hide (below_trans (unhide HBr) hb)
        obtain ⟨P, hP⟩ : ∃ P, x * z = P := ⟨_, rfl⟩
        have HP := hide hP
        clear hz hb HBr hP
        go_wp2
        go_roundw
        case rel =>
          refine ⟨j + 1, by omega, by simp, ?_, HB2⟩
          rw [unhide HW, unhide HZ, unhide HP]
          try rw [unhide HP]
          congr 1
          unfold wrap64; omega
        case measure => simp [intOf]; omega
      · obtain rfl : j = n := by omega
        go_wp2
        go_ret
        exact ⟨ret_int (unhide HE).symm, unhide HBr⟩
  · have HM := hide m
    have HE := hide (show partI cosC xs = 0 by unfold partI; rw [hn, if_neg m])
    clear hl hn hs hq m
    go_enter Tryd.func76, Tryd.ntmps76
    go_wp2_with fail
    refine (maybe_no n _ (unhide HM)).mono ?_
    rintro e w1 ⟨rfl, rfl⟩
    go_wp2
    go_ret
    exact ⟨ret_int (unhide HE).symm, Below.refl _ _⟩

set_option maxRecDepth 100000 in
theorem part_sin (a : Option Addr) (cap n : Nat) (xs : List Int) (w : World) (hl : Lies w a xs) (hs : Small xs) (hn : xs.length = n) (hq : Quar w) :
    Calls Tryd.prog 76 #[.slice a n cap, .func (.func 78) #[] #[]] w fun e w' => e = .returned (.int .i64 (partI sinC xs)) ∧ Below w.heap.size w w' := by
  by_cases m : mayN n
  · have HL := hide hl
    have HN := hide hn
    have HS := hide hs
    have HQ := hide hq
    have HE := hide (show partI sinC xs = wrap64 (wgh sinC xs n) by unfold partI; rw [hn, if_pos m])
    have hm : n ≤ 32 := by unfold mayN at m; omega
    have HM := hide m
    clear hl hn hs hq m
    go_enter Tryd.func76, Tryd.ntmps76
    go_wp2_with fail
    refine (maybe_yes n _ (unhide HM)).mono ?_
    rintro e w1 ⟨rfl, rfl⟩
    go_wp2
    go_loopw [14, 5] (fun i s wr => ∃ (j : Nat), j ≤ n ∧ i = .int .i64 (j : Int) ∧ s = .int .i64 (wrap64 (wgh sinC xs j)) ∧ Hid (Below w1.heap.size w1 wr))
      (fun i _ _ => n - (intOf i).toNat)
    case atStart => exact ⟨0, by omega, rfl, by show _ = Value.int .i64 (wrap64 0); rw [w64_zero], Below.refl _ _⟩
    case round =>
      obtain ⟨j, hj, rfl, rfl, HBr⟩ := hrel
      by_cases hlt : j < n
      · obtain ⟨ba, oa, rfl, hlta, hca⟩ := (unhide HL).some (by intro h; have := unhide HN; subst h; simp at this; omega)
        have cx : wr.cell? ⟨ba, oa + j, none⟩ = some (.int .i64 (xs.getD j 0)) := by rw [(unhide HBr).cell (p := ⟨ba, _, none⟩) hlta]; exact hca j (by rw [unhide HN]; exact hlt)
        obtain ⟨S, hS⟩ : ∃ S, wgh sinC xs j = S := ⟨_, rfl⟩
        obtain ⟨x, hx⟩ : ∃ x, xs.getD j 0 = x := ⟨_, rfl⟩
        obtain ⟨q, hq⟩ : ∃ q, j * 32 / n = q := ⟨_, rfl⟩
        have hq32 : q < 32 := by rw [← hq]; exact place_bd j n hlt
        have HT := hide (show (j : Int) * 32 / (n : Int) = (q : Int) by rw [← hq]; rfl)
        have HW := hide (show wgh sinC xs (j + 1) = S + x * sinC q by show sumF _ (j + 1) = _; rw [← hS, ← hx, ← hq, ← unhide HN]; rfl)
        rw [hx] at cx
        rw [hS]
        clear hca hS hx hq
        go_wp2_with fail
        rw [unhide HT]
        refine (msin_any (q : Int) _ (by unfold In64; omega) ((unhide HQ).below (unhide HBr))).mono ?_
        rintro e w2 ⟨rfl, hb⟩
        obtain ⟨z, hz⟩ : ∃ z, -sinI (q : Int) = z := ⟨_, rfl⟩
        have hbd := sinI_bd (q : Int)
        replace hbd : -16384 ≤ z ∧ z ≤ 16384 := by omega
        rw [hz]
        have HZ := hide (show sinC q = z by rw [← hz]; rfl)
        have HB2 := hide (below_trans (unhide HBr) hb)
        obtain ⟨P, hP⟩ : ∃ P, x * z = P := ⟨_, rfl⟩
        have HP := hide hP
        clear hz hb HBr hP
        go_wp2
        go_roundw
        case rel =>
          refine ⟨j + 1, by omega, by simp, ?_, HB2⟩
          rw [unhide HW, unhide HZ, unhide HP]
          try rw [unhide HP]
          congr 1
          unfold wrap64; omega
        case measure => simp [intOf]; omega
      · obtain rfl : j = n := by omega
        go_wp2
        go_ret
        exact ⟨ret_int (unhide HE).symm, unhide HBr⟩
  · have HM := hide m
    have HE := hide (show partI sinC xs = 0 by unfold partI; rw [hn, if_neg m])
    clear hl hn hs hq m
    go_enter Tryd.func76, Tryd.ntmps76
    go_wp2_with fail
    refine (maybe_no n _ (unhide HM)).mono ?_
    rintro e w1 ⟨rfl, rfl⟩
    go_wp2
    go_ret
    exact ⟨ret_int (unhide HE).symm, Below.refl _ _⟩

theorem real_any (a : Option Addr) (cap n : Nat) (xs : List Int) (w : World) (hl : Lies w a xs) (hs : Small xs) (hn : xs.length = n) (hq : Quar w) :
    Calls Tryd.prog 54 #[.slice a n cap] w fun e w' => e = .returned (.int .i64 (partI cosC xs)) ∧ Below w.heap.size w w' := by
  have H := hide (part_cos a cap n xs w hl hs hn hq)
  clear hl hn hq
  go_enter Tryd.func54, Tryd.ntmps54
  go_wp2_with fail
  refine (unhide H).mono ?_
  rintro e w1 ⟨rfl, hb⟩
  go_wp2
  go_ret
  exact ⟨rfl, hb⟩

theorem imag_any (a : Option Addr) (cap n : Nat) (xs : List Int) (w : World) (hl : Lies w a xs) (hs : Small xs) (hn : xs.length = n) (hq : Quar w) :
    Calls Tryd.prog 55 #[.slice a n cap] w fun e w' => e = .returned (.int .i64 (partI sinC xs)) ∧ Below w.heap.size w w' := by
  have H := hide (part_sin a cap n xs w hl hs hn hq)
  clear hl hn hq
  go_enter Tryd.func55, Tryd.ntmps55
  go_wp2_with fail
  refine (unhide H).mono ?_
  rintro e w1 ⟨rfl, hb⟩
  go_wp2
  go_ret
  exact ⟨rfl, hb⟩

/-- A row of rows: where each lies, how much room it has, its numbers. -/
abbrev Rr := Option Addr × Nat × List Int

def rowV (r : Rr) : Value := .slice r.1 r.2.2.length r.2.1

def LiesR (w : World) (b : Nat) (rs : List Rr) : Prop := b < w.heap.size ∧ ∀ j, j < rs.length → w.cell? ⟨b, j, none⟩ = some (rowV (rs.getD j (none, 0, []))) ∧ Lies w (rs.getD j (none, 0, [])).1 (rs.getD j (none, 0, [])).2.2

theorem LiesR.below {w w' : World} {b : Nat} {rs : List Rr} (h : LiesR w b rs) (hb : Below w.heap.size w w') : LiesR w' b rs :=
  ⟨Nat.lt_of_lt_of_le h.1 hb.size, fun j hj => ⟨by rw [hb.cell (p := ⟨b, j, none⟩) h.1]; exact (h.2 j hj).1, (h.2 j hj).2.below hb⟩⟩

/-- The sum of rows up to number j of the one behind the first. -/
def upTo (acc row : List Int) (j : Nat) : List Int := mkL acc.length fun i => if i < j then wrap64 (acc.getD i 0 + row.getD i 0) else acc.getD i 0

theorem upTo_zero (acc row : List Int) : upTo acc row 0 = acc := mkL_eq _ _ _ rfl fun i _ => by rw [if_neg (by omega)]

theorem upTo_all (acc row : List Int) (n : Nat) (h : acc.length = n) : upTo acc row n = add2 acc row := by
  unfold upTo add2; rw [h]; exact mkL_congr _ _ _ fun i hi => by rw [if_pos hi]

theorem upTo_len (acc row : List Int) (j : Nat) : (upTo acc row j).length = acc.length := mkL_len _ _

theorem upTo_at (acc row : List Int) (j : Nat) (h : j < acc.length) : (upTo acc row j).getD j 0 = acc.getD j 0 := by
  unfold upTo; rw [mkL_at _ _ _ h, if_neg (by omega)]

theorem upTo_set (acc row : List Int) (j : Nat) (h : j < acc.length) : (upTo acc row j).set j (wrap64 (acc.getD j 0 + row.getD j 0)) = upTo acc row (j + 1) := by
  refine list_same (by rw [List.length_set, upTo_len, upTo_len]) fun i hi => ?_
  rw [List.length_set, upTo_len] at hi
  rw [getD_set, upTo_len]
  by_cases c : j = i
  · subst c; rw [if_pos ⟨rfl, h⟩]; unfold upTo; rw [mkL_at _ _ _ h, if_pos (by omega)]
  · rw [if_neg (fun h => c h.1)]; unfold upTo; rw [mkL_at _ _ _ hi, mkL_at _ _ _ hi]
    by_cases d : i < j
    · rw [if_pos d, if_pos (by omega)]
    · rw [if_neg d, if_neg (by omega)]

def conts (rs : List Rr) : List (List Int) := rs.map (·.2.2)

/-- The numbers of a sum: none, if the rows' sizes differ. -/
def sumR (rs : List Rr) : List Int := if ∀ r ∈ rs, r.2.2.length = (rs.getD 0 (none, 0, [])).2.2.length then addAll (rs.getD 0 (none, 0, [])).2.2.length (conts rs) else []

set_option maxRecDepth 100000 in
theorem sum_some (b m cap : Nat) (rs : List Rr) (n : Nat) (w : World) (hl : LiesR w b rs) (hm : rs.length = m) (h0 : 0 < m) (hmx : m ≤ 1000000) (hn : (rs.getD 0 (none, 0, [])).2.2.length = n) (hnx : n ≤ 1000000) :
    Calls Tryd.prog 94 #[.slice (some ⟨b, 0, none⟩) m cap] w fun e w' => ∃ a l c, e = .returned (.slice a l c) ∧ (sumR rs).length = l ∧ Lies w' a (sumR rs) ∧ Below w.heap.size w w' := by
  obtain ⟨i0, hi, hz0, hz1, hz2⟩ := info_parts Tryd.info3
  have HL := hide hl
  have HM := hide hm
  have HN := hide hn
  have c0 : w.cell? ⟨b, 0, none⟩ = some (.slice (rs.getD 0 (none, 0, [])).1 n (rs.getD 0 (none, 0, [])).2.1) := by rw [← hn]; exact (hl.2 0 (by omega)).1
  generalize (rs.getD 0 (none, 0, [])).1 = a0 at c0
  generalize (rs.getD 0 (none, 0, [])).2.1 = cap0 at c0
  clear hl hm hn
  go_enter Tryd.func94, Tryd.ntmps94
  go_wp2_with (at_make; refine wpList_make_full _ rfl _ _ 24 rfl w.heap.size 3 i0 (.int .i64 0) 1 Tryd.underlying24 hi hz0 hz1 _ _ _ _ n rfl rfl rfl rfl ?m1 ?m2 ?m3 ?_)
  case m1 => rw [hz2]; omega
  case m2 => unfold maxLen; omega
  case m3 => exact Nat.le_refl _
  intro w1 hown hgr
  rw [ints_zero] at hown
  have HO := hide (own_cells hown)
  have HB := hide ((Below.refl w.heap.size w).grown hgr (Nat.le_refl _) (fun _ h => by cases h))
  clear hown hgr
  go_wp2
  clear c0
  go_loopw [18] (fun i wr => ∃ (k : Nat), k ≤ m ∧ i = .int .i64 (k : Int) ∧ Hid (∀ j, j < k → (rs.getD j (none, 0, [])).2.2.length = n) ∧ Hid (Cells wr w.heap.size (ints (addAll n ((conts rs).take k)))) ∧ Hid (Below w.heap.size w wr))
    (fun i _ => m - (intOf i).toNat)
  case atStart => exact ⟨0, by omega, rfl, fun j h => absurd h (Nat.not_lt_zero _), HO, HB⟩
  case round =>
    obtain ⟨k, hk, rfl, HGr, HOr, HBr⟩ := hrel
    by_cases hlt : k < m
    · obtain ⟨ck, hlk⟩ := ((unhide HL).2 k (by rw [unhide HM]; exact hlt))
      have cx : wr.cell? ⟨b, k, none⟩ = some (rowV (rs.getD k (none, 0, []))) := by rw [(unhide HBr).cell (p := ⟨b, _, none⟩) (unhide HL).1]; exact ck
      unfold rowV at cx
      obtain ⟨ak, ek⟩ : ∃ x, (rs.getD k (none, 0, [])).1 = x := ⟨_, rfl⟩
      obtain ⟨row, er⟩ : ∃ x, (rs.getD k (none, 0, [])).2.2 = x := ⟨_, rfl⟩
      obtain ⟨l, el⟩ : ∃ x, row.length = x := ⟨_, rfl⟩
      rw [ek, er] at hlk
      rw [ek, er, el] at cx
      generalize (rs.getD k (none, 0, [])).2.1 = ckp at cx
      have HLk := hide hlk
      have HEr := hide er
      have HEl := hide el
      clear ck hlk ek er el HO HB
      by_cases c : l = n
      · subst c
        go_wp2
        obtain ⟨wo, rfl⟩ : ∃ wo, wo = wr := ⟨_, rfl⟩
        obtain ⟨acc, hacc⟩ : ∃ x, addAll l ((conts rs).take k) = x := ⟨_, rfl⟩
        have HAL := hide (show acc.length = l by rw [← hacc]; exact addAll_len _ _)
        rw [hacc] at HOr
        have HAC := hide hacc
        clear hacc cx
        go_loopw [29] (fun i wr => ∃ (j : Nat), j ≤ l ∧ i = .int .i64 (j : Int) ∧ Hid (Cells wr w.heap.size (ints (upTo acc row j))) ∧ Hid (Below w.heap.size w wr))
          (fun i _ => l - (intOf i).toNat)
        case atStart => exact ⟨0, by omega, rfl, by rw [upTo_zero]; exact HOr, HBr⟩
        case round =>
          obtain ⟨j, hj, rfl, HOj, HBj⟩ := hrel
          by_cases hjl : j < l
          · obtain ⟨bk, ok, rfl, hltk, hck⟩ := (unhide HLk).some (by intro h; have := unhide HEl; subst h; simp at this; omega)
            have cy : wr.cell? ⟨bk, ok + j, none⟩ = some (.int .i64 (row.getD j 0)) := by rw [(unhide HBj).cell (p := ⟨bk, _, none⟩) hltk]; exact hck j (by rw [unhide HEl]; exact hjl)
            have cz : wr.cell? ⟨w.heap.size, j, none⟩ = some (.int .i64 (acc.getD j 0)) := by rw [← upTo_at acc row j (by rw [unhide HAL]; exact hjl)]; exact (unhide HOj).cell j _ (ints_at _ j (by rw [upTo_len, unhide HAL]; exact hjl))
            have hfree := (unhide HOj).free j
            have HSet := hide (upTo_set acc row j (by rw [unhide HAL]; exact hjl))
            generalize row.getD j 0 = y at cy HSet
            generalize acc.getD j 0 = z at cz HSet
            clear hck HOr HBr
            go_wp2
            go_roundw
            case rel =>
              refine ⟨j + 1, by omega, by simp, ?_, (unhide HBj).setCell (Nat.le_refl _) _⟩
              have := (unhide HOj).set j (.int .i64 (wrap64 (z + y)))
              rw [ints_set, unhide HSet] at this
              exact this
            case measure => simp [intOf]; omega
          · obtain rfl : j = l := by omega
            rw [upTo_all acc row j (unhide HAL)] at HOj
            go_wp2
            go_roundw
            case rel =>
              refine ⟨k + 1, by omega, by simp, ?_, ?_, HBj⟩
              · intro i hi
                by_cases c : i = k
                · subst c; rw [unhide HEr]; exact unhide HEl
                · exact unhide HGr i (by omega)
              · rw [addAll_succ _ _ _ (by unfold conts; rw [List.length_map, unhide HM]; exact hlt), unhide HAC]
                have : (conts rs).getD k [] = row := by
                  have hkk : k < rs.length := by rw [unhide HM]; exact hlt
                  rw [← unhide HEr]; unfold conts
                  simp [List.getD_eq_getElem?_getD, List.getElem?_eq_getElem hkk]
                rw [this]; exact HOj
            case measure => simp [intOf]; omega
      · have hne : ¬ (l : Int) = (n : Int) := by omega
        have hne2 : ((l : Int) != (n : Int)) = true := by simp; omega
        go_wp2
        go_ret
        have hno : sumR rs = [] := by
          unfold sumR
          rw [if_neg]
          intro h
          have hkk : k < rs.length := by rw [unhide HM]; exact hlt
          have := h _ (List.getElem_mem hkk)
          rw [unhide HN] at this
          have e : rs[k] = rs.getD k (none, 0, []) := by simp [List.getD_eq_getElem?_getD, List.getElem?_eq_getElem hkk]
          rw [e, unhide HEr, unhide HEl] at this
          exact c this
        rw [hno]
        exact ⟨none, 0, 0, rfl, rfl, .inl rfl, unhide HBr⟩
    · obtain rfl : k = m := by omega
      go_wp2
      go_ret
      have hyes : sumR rs = addAll n (conts rs) := by
        unfold sumR
        rw [unhide HN, if_pos]
        intro r hr
        obtain ⟨i, hi, rfl⟩ := List.getElem_of_mem hr
        have := unhide HGr i (by rw [← unhide HM]; exact hi)
        simpa [List.getD_eq_getElem?_getD, List.getElem?_eq_getElem hi] using this
      rw [List.take_of_length_le (by unfold conts; rw [List.length_map, unhide HM]; exact Nat.le_refl _)] at HOr
      rw [hyes]
      exact ⟨_, n, n, rfl, addAll_len _ _, (unhide HOr).lies, unhide HBr⟩

theorem add_some (b m cap : Nat) (rs : List Rr) (n : Nat) (w : World) (hl : LiesR w b rs) (hm : rs.length = m) (h0 : 0 < m) (hmx : m ≤ 1000000) (hn : (rs.getD 0 (none, 0, [])).2.2.length = n) (hnx : n ≤ 1000000) :
    Calls Tryd.prog 84 #[.slice (some ⟨b, 0, none⟩) m cap] w fun e w' => ∃ a l c, e = .returned (.slice a l c) ∧ (sumR rs).length = l ∧ Lies w' a (sumR rs) ∧ Below w.heap.size w w' := by
  have H := hide (sum_some b m cap rs n w hl hm h0 hmx hn hnx)
  clear hl hm hn
  go_enter Tryd.func84, Tryd.ntmps84
  go_wp2_with fail
  refine (unhide H).mono ?_
  rintro e w1 ⟨a, l, c, rfl, hl, hla, hb⟩
  have H1 := hide hl
  have H2 := hide hla
  have H3 := hide hb
  clear hl hla hb
  go_wp2
  go_ret
  exact ⟨a, l, c, rfl, unhide H1, unhide H2, unhide H3⟩

theorem liesR_new (w : World) (rs : List Rr) (t : TypeId) (h : ∀ r ∈ rs, Lies w r.1 r.2.2) : LiesR (w.alloc (.cells (rs.map rowV).toArray t)) w.heap.size rs := by
  refine ⟨by simp, fun j hj => ⟨?_, ?_⟩⟩
  · refine (cells_new w (rs.map rowV) t).cell j _ ?_
    simp [List.getD_eq_getElem?_getD, List.getElem?_eq_getElem hj]
  · refine (h _ ?_).below ((Below.refl _ w).alloc (Nat.le_refl _) _)
    simp [List.getD_eq_getElem?_getD, List.getElem?_eq_getElem hj]

/-- The sum of two, of three rows: none, if their sizes differ. -/
def sum2 (xs ys : List Int) : List Int := if ys.length = xs.length then add2 xs ys else []

theorem sumR_two (a b : Option Addr) (ca cb : Nat) (xs ys : List Int) (hs : Small xs) : sumR [(a, ca, xs), (b, cb, ys)] = sum2 xs ys := by
  unfold sumR sum2
  by_cases c : ys.length = xs.length
  · rw [if_pos c, if_pos (by intro r hr; simp at hr; rcases hr with rfl | rfl; exact rfl; exact c)]
    show add2 (add2 (List.replicate xs.length 0) xs) ys = _
    rw [add2_zero _ xs rfl hs]
  · rw [if_neg c, if_neg (fun h => c (h (b, cb, ys) (by simp)))]

theorem add_two (a b : Option Addr) (n m ca cb : Nat) (xs ys : List Int) (w w0 : World) (hb : Below w.heap.size w w0) (ha : Lies w a xs) (hy : Lies w b ys) (hs : Small xs) (hn : xs.length = n) (hm : ys.length = m) (hnx : n ≤ 1000000) :
    Calls Tryd.prog 84 #[.slice (some ⟨w0.heap.size, 0, none⟩) 2 2] (w0.alloc (.cells #[.slice a n ca, .slice b m cb] 24)) (Told (sum2 xs ys) w) := by
  subst hn hm
  refine (add_some w0.heap.size 2 2 [(a, ca, xs), (b, cb, ys)] xs.length _ (liesR_new w0 [(a, ca, xs), (b, cb, ys)] 24 (by intro r hr; simp at hr; rcases hr with rfl | rfl; exact ha.below hb; exact hy.below hb)) rfl (by decide) (by decide) rfl hnx).mono ?_
  rintro e w1 ⟨p, l, c, rfl, h1, h2, h3⟩
  rw [sumR_two a b ca cb xs ys hs] at h1 h2
  exact ⟨p, l, c, rfl, h1, h2, (hb.alloc hb.size _).trans (h3.mono (by have := hb.size; simp; omega))⟩

def less2 (xs ys : List Int) : List Int := if ys.length = xs.length then lessL xs ys else []

theorem less_any (a b : Option Addr) (n m ca cb : Nat) (xs ys : List Int) (w : World) (ha : Lies w a xs) (hy : Lies w b ys) (hs : Small xs) (hsy : Small ys) (hn : xs.length = n) (hm : ys.length = m) (hnx : n ≤ 1000000) (hmx : m ≤ 1000000) :
    Calls Tryd.prog 85 #[.slice a n ca, .slice b m cb] w (Told (less2 xs ys) w) := by
  have HA := hide ha
  have HY := hide hy
  have HN := hide hn
  have HM := hide hm
  have HE := hide (show sum2 xs (turnL ys (m : Int)) = less2 xs ys by unfold sum2 less2 lessL; rw [turn_len, hm])
  clear ha hy hn hm
  go_enter Tryd.func85, Tryd.ntmps85
  go_wp2_with fail
  refine (sturn_any b cb ys m (m : Int) _ (unhide HY) hsy (unhide HM) hmx (by unfold In64; omega)).mono ?_
  rintro e w1 ⟨g, rfl, hg, hc, hb⟩
  have HT := hide hc.lies
  have HB := hide hb
  clear hg hc hb
  go_wp2_with fail
  refine (add_two a (some ⟨g, 0, none⟩) n m ca m xs (turnL ys (m : Int)) w1 w1 (Below.refl _ _) ((unhide HA).below (unhide HB)) (unhide HT) hs (unhide HN) (by rw [turn_len]; exact unhide HM) hnx).mono ?_
  rintro e w2 ⟨p, l, c, rfl, h1, h2, h3⟩
  rw [unhide HE] at h1 h2
  have H1 := hide h1
  have H2 := hide h2
  have H3 := hide (below_trans (unhide HB) h3)
  clear h1 h2 h3
  go_wp2
  go_ret
  exact ⟨p, l, c, rfl, unhide H1, unhide H2, unhide H3⟩

theorem turn_told (a : Option Addr) (cap : Nat) (xs : List Int) (n : Nat) (k : Int) (w : World) (hl : Lies w a xs) (hs : Small xs) (hn : xs.length = n) (hm : n ≤ 1000000) (hk : In64 k) :
    Calls Tryd.prog 83 #[.slice a n cap, .int .i64 k] w (Told (turnL xs k) w) := by
  refine (sturn_any a cap xs n k w hl hs hn hm hk).mono ?_
  rintro e w1 ⟨g, rfl, hg, hc, hb⟩
  exact ⟨_, n, n, rfl, by rw [turn_len]; exact hn, hc.lies, hb⟩

theorem spin_undrew {w w' : World} (h : Below w.drew.heap.size w.drew w') : Below w.heap.size w w' := ⟨h.os, h.tape, h.output, h.size, h.block⟩

/-- What the m-th power of w has at place 0: 1, -1, or nothing. -/
def sg (h : Nat) (m : Int) : Int := if m % (2 * (h : Int)) = 0 then 1 else if m % (2 * (h : Int)) = h then -1 else 0

theorem sg_congr (h : Nat) (m n : Int) (e : m % (2 * (h : Int)) = n % (2 * (h : Int))) : sg h m = sg h n := by unfold sg; rw [e]

theorem sg_half (h : Nat) (m : Int) (h0 : 0 < h) : sg h (m + h) = -sg h m := by
  obtain ⟨r, hr⟩ : ∃ r : Nat, m % (2 * (h : Int)) = r := ⟨(m % (2 * (h : Int))).toNat, by have := Int.emod_nonneg m (b := 2 * (h : Int)) (by omega); omega⟩
  have hlt : r < 2 * h := by have := Int.emod_lt_of_pos m (b := 2 * (h : Int)) (by omega); omega
  have hm := Int.mul_ediv_add_emod m (2 * (h : Int))
  rw [hr] at hm
  unfold sg
  rw [hr]
  by_cases c : r < h
  · rw [mod_of (m := m + h) (n := 2 * (h : Int)) ((r + h : Nat) : Int) (m / (2 * (h : Int))) (by omega) (by omega) (by omega)]
    by_cases d : r = 0
    · subst d; rw [if_neg (by omega), if_pos (by omega), if_pos (by omega)]
    · rw [if_neg (by omega), if_neg (by omega), if_neg (by omega), if_neg (by omega)]; rfl
  · rw [mod_of (m := m + h) (n := 2 * (h : Int)) ((r - h : Nat) : Int) (m / (2 * (h : Int)) + 1) (by rw [Int.mul_add]; omega) (by omega) (by omega)]
    by_cases d : r = h
    · subst d; rw [if_pos (by omega), if_neg (by omega), if_pos (by omega)]; rfl
    · rw [if_neg (by omega), if_neg (by omega), if_neg (by omega), if_neg (by omega)]; rfl

/-- The sum of samples, sample t turned by p times t. -/
def spinS (h : Nat) (p : Int) (xs : List Int) : List Int := mkL h fun j => wrap64 (sumF (fun t => xs.getD t 0 * sg h ((j : Int) - p * (t : Int))) xs.length)

def spinTo (h : Nat) (p : Int) (xs : List Int) (T : Nat) : List Int := mkL h fun j => wrap64 (sumF (fun t => xs.getD t 0 * sg h ((j : Int) - p * (t : Int))) T)

theorem spinS_len (h : Nat) (p : Int) (xs : List Int) : (spinS h p xs).length = h := mkL_len _ _

theorem spinS_small (h : Nat) (p : Int) (xs : List Int) : Small (spinS h p xs) := small_mk _ _ fun _ _ => in_w64 _

theorem spin_congr (h : Nat) (p q : Int) (xs : List Int) (T : Nat) (e : p % (2 * (h : Int)) = q % (2 * (h : Int))) : spinTo h p xs T = spinTo h q xs T := by
  refine mkL_congr _ _ _ fun j _ => ?_
  congr 1
  refine sumF_congr _ _ _ fun t _ => ?_
  congr 1
  apply sg_congr
  rw [Int.sub_emod, Int.mul_emod, e, ← Int.mul_emod, ← Int.sub_emod]

theorem spinS_congr (h : Nat) (p q : Int) (xs : List Int) (e : p % (2 * (h : Int)) = q % (2 * (h : Int))) : spinS h p xs = spinS h q xs := spin_congr h p q xs xs.length e

/-- One sample as a spin: it is number 0, all others are 0. -/
def oneL (h : Nat) (x : Int) : List Int := mkL h fun j => if j = 0 then x else 0

theorem oneL_len (h : Nat) (x : Int) : (oneL h x).length = h := mkL_len _ _

theorem oneL_set (h : Nat) (x : Int) (h0 : 0 < h) : (List.replicate h (0 : Int)).set 0 x = oneL h x := by
  refine (mkL_eq _ _ _ (by simp) fun i hi => ?_).symm
  rw [getD_set]
  by_cases c : i = 0
  · subst c; rw [if_pos rfl, if_pos ⟨rfl, by simpa using h0⟩]
  · rw [if_neg c, if_neg (fun h => c h.1.symm), zero_at]

theorem Cg.symm {a b : Int} (h : Cg a b) : Cg b a := by obtain ⟨t, rfl⟩ := h; exact ⟨-t, by omega⟩

theorem cg_neg {a b : Int} (h : Cg a b) : Cg (-a) (-b) := by obtain ⟨t, rfl⟩ := h; exact ⟨-t, by omega⟩

/-- A sum's number at any place. -/
theorem ext_spin (h : Nat) (p : Int) (xs : List Int) (m : Int) (h0 : 0 < h) : ext (spinS h p xs) m = wrap64 (sumF (fun t => xs.getD t 0 * sg h (m - p * (t : Int))) xs.length) := by
  obtain ⟨r, hr⟩ : ∃ r : Nat, m % (2 * (h : Int)) = r := ⟨(m % (2 * (h : Int))).toNat, by have := Int.emod_nonneg m (b := 2 * (h : Int)) (by omega); omega⟩
  have hlt : r < 2 * h := by have := Int.emod_lt_of_pos m (b := 2 * (h : Int)) (by omega); omega
  rw [ext_of (spinS h p xs) m r (by rw [spinS_len]; exact hr), spinS_len]
  have key : ∀ t : Int, sg h (m - t) = sg h ((r : Int) - t) := fun t => sg_congr h _ _ (by rw [← hr]; exact (Int.emod_sub_cancel_right t).2 (Int.emod_emod _ _).symm)
  unfold spinS
  by_cases c : r < h
  · rw [if_pos c, mkL_at _ _ _ c]
    congr 1
    exact sumF_congr _ _ _ fun t _ => by rw [key]
  · rw [if_neg c, mkL_at _ _ _ (by omega)]
    unfold neg64
    apply cg_wrap
    refine (cg_neg (cg_of _)).trans ?_
    rw [← sumF_neg]
    rw [sumF_congr (fun i => -(xs.getD i 0 * sg h (((r - h : Nat) : Int) - p * (i : Int)))) (fun t => xs.getD t 0 * sg h (m - p * (t : Int))) _ (fun t _ => by
      rw [key, show (r : Int) - p * (t : Int) = (((r - h : Nat) : Int) - p * (t : Int)) + h by omega, sg_half _ _ h0, Int.mul_neg])]
    exact Cg.refl _

def evens (xs : List Int) (m : Nat) : List Int := mkL m fun t => xs.getD (2 * t) 0

def odds (xs : List Int) (m : Nat) : List Int := mkL m fun t => xs.getD (2 * t + 1) 0

theorem sumF_two (f : Nat → Int) : ∀ m, sumF f (2 * m) = sumF (fun t => f (2 * t)) m + sumF (fun t => f (2 * t + 1)) m
  | 0 => rfl
  | m + 1 => by
    show sumF f (2 * m) + f (2 * m) + f (2 * m + 1) = (sumF (fun t => f (2 * t)) m + f (2 * m)) + (sumF (fun t => f (2 * t + 1)) m + f (2 * m + 1))
    rw [sumF_two f m]; omega

theorem spin_halves (h : Nat) (p : Int) (xs : List Int) (m : Nat) (hn : xs.length = 2 * m) (h0 : 0 < h) :
    spinS h p xs = add2 (spinS h (2 * p) (evens xs m)) (turnL (spinS h (2 * p) (odds xs m)) p) := by
  refine list_same (by rw [add2_len, spinS_len, spinS_len]) fun i hi => ?_
  rw [spinS_len] at hi
  rw [add2_at _ _ _ (by rw [spinS_len]; exact hi)]
  unfold turnL
  rw [spinS_len, mkL_at _ _ _ hi, ext_spin _ _ _ _ h0]
  have e1 : (spinS h p xs).getD i 0 = wrap64 (sumF (fun t => xs.getD t 0 * sg h ((i : Int) - p * (t : Int))) xs.length) := mkL_at _ _ _ hi
  have e2 : (spinS h (2 * p) (evens xs m)).getD i 0 = wrap64 (sumF (fun t => (evens xs m).getD t 0 * sg h ((i : Int) - 2 * p * (t : Int))) (evens xs m).length) := mkL_at _ _ _ hi
  rw [e1, e2]
  apply cg_wrap
  have f1 : (evens xs m).length = m := mkL_len _ _
  have f2 : (odds xs m).length = m := mkL_len _ _
  rw [hn, sumF_two, f1, f2]
  refine Cg.plus (Cg.trans ?_ (cg_of _).symm) (Cg.trans ?_ (cg_of _).symm)
  · rw [sumF_congr _ (fun t => (evens xs m).getD t 0 * sg h ((i : Int) - 2 * p * (t : Int))) m fun t ht => by
      unfold evens; rw [mkL_at _ _ _ ht]; congr 2; rw [show ((2 * t : Nat) : Int) = 2 * (t : Int) by omega, Int.mul_comm 2 p, Int.mul_assoc]]
    exact Cg.refl _
  · rw [sumF_congr _ (fun t => (odds xs m).getD t 0 * sg h ((i : Int) - p - 2 * p * (t : Int))) m fun t ht => by
      unfold odds; rw [mkL_at _ _ _ ht]; congr 2; rw [show ((2 * t + 1 : Nat) : Int) = 2 * (t : Int) + 1 by omega, Int.mul_add, Int.mul_comm 2 p, Int.mul_assoc]; omega]
    exact Cg.refl _

/-- Half a round on: the other one of both is taken off. -/
theorem spin_other (h : Nat) (p : Int) (xs : List Int) (m : Nat) (hn : xs.length = 2 * m) (h0 : 0 < h) :
    spinS h (p + h) xs = lessL (spinS h (2 * p) (evens xs m)) (turnL (spinS h (2 * p) (odds xs m)) p) := by
  rw [spin_halves h (p + h) xs m hn h0]
  have e : (2 * (p + h)) % (2 * (h : Int)) = (2 * p) % (2 * (h : Int)) := by rw [Int.mul_add, Int.add_emod_right]
  rw [spinS_congr h _ _ _ e, spinS_congr h _ _ (odds xs m) e]
  unfold lessL
  rw [turn_turn _ _ _ (spinS_small _ _ _), turn_len, spinS_len]

def shiftI (xs : List Int) : Int := if 15 < normI xs then normI xs - 15 else 0

theorem told_len {xs : List Int} {w w' : World} {e : Ending} (h : Told xs w e w') {n : Nat} (hn : xs.length = n) : ∃ a c, e = .returned (.slice a n c) ∧ Lies w' a xs ∧ Below w.heap.size w w' := by
  obtain ⟨a, l, c, rfl, h1, h2, h3⟩ := h
  exact ⟨a, c, by rw [← h1, hn], h2, h3⟩

abbrev nilR : Rr := (none, 0, [])

/-- A row of rows: a block of its own, that tells where each lies. -/
def RowsAt (w : World) (b : Nat) (rs : List Rr) : Prop := Cells w b (rs.map rowV) ∧ ∀ r ∈ rs, Lies w r.1 r.2.2

theorem RowsAt.below {w w' : World} {b : Nat} {rs : List Rr} (h : RowsAt w b rs) (hb : Below w.heap.size w w') : RowsAt w' b rs :=
  ⟨h.1.below hb, fun r hr => (h.2 r hr).below hb⟩

theorem rowsD_mem {rs : List Rr} {j : Nat} (hj : j < rs.length) : rs.getD j nilR ∈ rs := by
  rw [List.getD_eq_getElem?_getD, List.getElem?_eq_getElem hj]; simp

theorem RowsAt.lies {w : World} {b : Nat} {rs : List Rr} (h : RowsAt w b rs) (j : Nat) (hj : j < rs.length) : Lies w (rs.getD j nilR).1 (rs.getD j nilR).2.2 := h.2 _ (rowsD_mem hj)

theorem rows_at (rs : List Rr) (j : Nat) (hj : j < rs.length) : (rs.map rowV)[j]? = some (rowV (rs.getD j nilR)) := by
  simp [List.getD_eq_getElem?_getD, List.getElem?_eq_getElem hj]

theorem RowsAt.cell {w : World} {b : Nat} {rs : List Rr} (h : RowsAt w b rs) (j : Nat) (hj : j < rs.length) : w.cell? ⟨b, j, none⟩ = some (rowV (rs.getD j nilR)) :=
  h.1.cell j _ (rows_at rs j hj)

theorem RowsAt.liesR {w : World} {b : Nat} {rs : List Rr} (h : RowsAt w b rs) : LiesR w b rs := ⟨h.1.lt, fun j hj => ⟨h.cell j hj, h.lies j hj⟩⟩

/-- A row of numbers lies in no block of rows. -/
theorem RowsAt.apart {w : World} {b : Nat} {rs : List Rr} (h : RowsAt w b rs) {a : Option Addr} {xs : List Int} (hl : Lies w a xs) : xs ≠ [] → ∀ p, a = some p → p.block ≠ b := by
  intro h0 p hp
  obtain ⟨g, o, rfl, hlt, hc⟩ := hl.some h0
  cases hp
  rintro rfl
  have h1 := hc 0 (by cases xs with | nil => exact absurd rfl h0 | cons => simp)
  rw [h.1.at] at h1
  obtain ⟨r, _, hr⟩ := List.mem_map.1 (List.mem_of_getElem? h1)
  cases hr

theorem RowsAt.other {w : World} {b : Nat} {rs : List Rr} (h : RowsAt w b rs) {a : Option Addr} {xs : List Int} (hl : Lies w a xs) (j : Nat) (u : Value) : Lies (w.setCell ⟨b, j, none⟩ u) a xs :=
  hl.only ((Only.refl b w).setCell rfl u) (h.apart hl)

theorem RowsAt.set {w : World} {b : Nat} {rs : List Rr} (h : RowsAt w b rs) (j : Nat) (r : Rr) (hl : Lies w r.1 r.2.2) : RowsAt (w.setCell ⟨b, j, none⟩ (rowV r)) b (rs.set j r) := by
  refine ⟨?_, fun x hx => ?_⟩
  · have := h.1.set j (rowV r)
    rw [← List.map_set] at this
    exact this
  · rcases List.mem_or_eq_of_mem_set hx with hx | rfl
    · exact h.other (h.2 x hx) j _
    · exact h.other hl j _

theorem getDR_set (rs : List Rr) (j i : Nat) (r : Rr) : (rs.set j r).getD i nilR = if j = i ∧ i < rs.length then r else rs.getD i nilR := by
  simp only [List.getD_eq_getElem?_getD, List.getElem?_set]
  by_cases c : j = i
  · subst c
    by_cases d : j < rs.length
    · simp [d]
    · simp [d]
  · simp [c]

theorem Tryd.info_row : (Tryd.prog.info? 24).map (fun i => (i.zero, i.size, i.bytes)) = some (some (.slice none 0 0), 1, 24) := by kernel_rfl

theorem own_cells_of {w : World} {base n g e : Nat} {xs : List Value} (h : w.ownsRow base e 1 (.slice (some ⟨g, 0, none⟩) n n) n xs) : Cells w g xs := by
  rcases h.2 with ⟨h', _⟩ | ⟨g', cap, cur, h1, h2, h3, h4, h5, h6, h7⟩
  · cases h'
  · cases h1
    refine ⟨e, ?_⟩
    rw [h3, ← h7, List.take_of_length_le (by simp [h6])]

theorem rows_zero (n : Nat) : (madeCells #[.slice none 0 0] n).toList = (List.replicate n nilR).map rowV := by
  rw [toList_madeCells_one]
  simp [rowV]

theorem rows_made {w : World} {base n g : Nat} (h : w.ownsRow base 24 1 (.slice (some ⟨g, 0, none⟩) n n) n ((List.replicate n nilR).map rowV)) : RowsAt w g (List.replicate n nilR) :=
  ⟨own_cells_of h, fun r hr => by obtain rfl := List.eq_of_mem_replicate hr; exact .inl rfl⟩

/-- A length of samples may be. -/
def mayF (n : Nat) : Prop := n = 2 ∨ n = 4 ∨ n = 8 ∨ n = 16 ∨ n = 32 ∨ n = 64
instance (n : Nat) : Decidable (mayF n) := by unfold mayF; infer_instance

theorem mayF_of {h : Nat} (hm : mayN h) : mayF (2 * h) := by unfold mayN at hm; unfold mayF; omega

theorem mayN_pos {h : Nat} (hm : mayN h) : 0 < h ∧ h ≤ 32 := by unfold mayN at hm; omega

theorem fmay_yes (n : Nat) (w : World) (h : mayF n) : Calls Tryd.prog 72 #[.int .i64 (n : Int)] w fun e w' => e = .returned (.bool true) ∧ w' = w := by
  rcases h with rfl | rfl | rfl | rfl | rfl | rfl
  all_goals
    go_enter Tryd.func72, Tryd.ntmps72
    go_wp2
    go_ret
    exact ⟨rfl, rfl⟩

/-- A sample alone, as a spin. -/
theorem alone_any (x : Int) (n h : Nat) (w : World) (hn : n = 2 * h) (h0 : 0 < h) (hm : h ≤ 1000) :
    Calls Tryd.prog 74 #[.int .i64 x, .int .i64 (n : Int)] w fun e w' => ∃ g, e = .returned (.slice (some ⟨g, 0, none⟩) h h) ∧ w.heap.size ≤ g ∧ Cells w' g (ints (oneL h x)) ∧ Below w.heap.size w w' := by
  obtain ⟨i0, hi, hz0, hz1, hz2⟩ := info_parts Tryd.info3
  have HD := hide (show wrap64 ((n : Int) / 2) = (h : Int) by rw [show (n : Int) / 2 = (h : Int) by omega]; exact w64_in ⟨by omega, by omega⟩)
  clear hn
  go_enter Tryd.func74, Tryd.ntmps74
  go_wp2_with (at_make; rw [unhide HD]; refine wpList_make_full _ rfl _ _ 24 rfl w.heap.size 3 i0 (.int .i64 0) 1 Tryd.underlying24 hi hz0 hz1 _ _ _ _ h rfl rfl rfl rfl ?m1 ?m2 ?m3 ?_)
  case m1 => rw [hz2]; omega
  case m2 => unfold maxLen; omega
  case m3 => exact Nat.le_refl _
  intro w1 hown hgr
  rw [ints_zero] at hown
  have HO := hide (own_cells hown)
  have HB := hide ((Below.refl w.heap.size w).grown hgr (Nat.le_refl _) (fun _ h => by cases h))
  have hcell := (unhide HO).cell 0 _ (ints_at _ 0 (by simpa using h0))
  have hfree := (unhide HO).free 0
  clear hown hgr
  go_wp2
  go_ret
  refine ⟨_, rfl, Nat.le_refl _, ?_, (unhide HB).setCell (Nat.le_refl _) _⟩
  have := (unhide HO).set 0 (.int .i64 x)
  rw [ints_set, oneL_set h x h0] at this
  exact this

/-- A row of rows somewhere: in a world, the rows of f. -/
def Rws (w : World) (a : Option Addr) (m : Nat) (f : Nat → List Int) : Prop := ∃ b rs, a = some ⟨b, 0, none⟩ ∧ RowsAt w b rs ∧ rs.length = m ∧ ∀ j, j < m → (rs.getD j nilR).2.2 = f j

theorem Rws.below {w w' : World} {a : Option Addr} {m : Nat} {f : Nat → List Int} (h : Rws w a m f) (hb : Below w.heap.size w w') : Rws w' a m f := by
  obtain ⟨b, rs, h1, h2, h3⟩ := h
  exact ⟨b, rs, h1, h2.below hb, h3⟩

theorem Rws.congr {w : World} {a : Option Addr} {m : Nat} {f g : Nat → List Int} (h : Rws w a m f) (e : ∀ j, j < m → f j = g j) : Rws w a m g := by
  obtain ⟨b, rs, h1, h2, h3, h4⟩ := h
  exact ⟨b, rs, h1, h2, h3, fun j hj => by rw [h4 j hj, e j hj]⟩

theorem Rws.at {w : World} {a : Option Addr} {m : Nat} {f : Nat → List Int} (h : Rws w a m f) : ∃ b, a = some ⟨b, 0, none⟩ ∧ b < w.heap.size ∧ ∀ j, j < m → ∃ p c, w.cell? ⟨b, j, none⟩ = some (.slice p (f j).length c) ∧ Lies w p (f j) := by
  obtain ⟨b, rs, h1, h2, h3, h4⟩ := h
  refine ⟨b, h1, h2.1.lt, fun j hj => ⟨(rs.getD j nilR).1, (rs.getD j nilR).2.1, ?_, ?_⟩⟩
  · rw [h2.cell j (by omega)]; unfold rowV; rw [h4 j hj]
  · have := h2.lies j (by omega); rw [h4 j hj] at this; exact this

/-- The spins of both halves, joined. -/
def joinF (f g : Nat → List Int) (m : Nat) (s : Nat) (j : Nat) : List Int :=
  if j < m then add2 (f j) (turnL (g j) ((j : Int) * (s : Int))) else lessL (f (j - m)) (turnL (g (j - m)) (((j - m : Nat) : Int) * (s : Int)))

set_option maxRecDepth 100000 in
theorem joined_any (a1 a2 : Option Addr) (c1 c2 m h s : Nat) (f g : Nat → List Int) (w : World) (h1 : Rws w a1 m f) (h2 : Rws w a2 m g) (hf : ∀ j, j < m → (f j).length = h ∧ Small (f j)) (hg : ∀ j, j < m → (g j).length = h ∧ Small (g j)) (hm : m ≤ 64) (hh : h ≤ 64) (hs : s ≤ 64) :
    Calls Tryd.prog 75 #[.int .i64 (s : Int), .slice a1 m c1, .slice a2 m c2] w fun e w' => ∃ a, e = .returned (.slice a (2 * m) (2 * m)) ∧ Rws w' a (2 * m) (joinF f g m s) ∧ Below w.heap.size w w' := by
  obtain ⟨i0, hi, hz0, hz1, hz2⟩ := info_parts Tryd.info_row
  have HA := hide h1
  have HC := hide h2
  have HF := hide hf
  have HG := hide hg
  clear h1 h2 hf hg
  go_enter Tryd.func75, Tryd.ntmps75
  go_wp2_with (at_make; refine wpList_make_full _ rfl _ _ 32 rfl w.heap.size 24 i0 (.slice none 0 0) 1 Tryd.underlying32 hi hz0 hz1 _ _ _ _ (2 * m) rfl rfl (by first | rfl | omega | simp) (by first | rfl | omega | simp) ?m1 ?m2 ?m3 ?_)
  case m1 => rw [hz2]; omega
  case m2 => unfold maxLen; omega
  case m3 => exact Nat.le_refl _
  intro w2 hown hgr
  rw [rows_zero] at hown
  have HO := hide (rows_made hown)
  have HB2 := hide ((Below.refl w.heap.size w).grown hgr (Nat.le_refl _) (fun _ h => by cases h))
  obtain ⟨b, hb⟩ : ∃ b, w.heap.size = b := ⟨_, rfl⟩
  have HBB := hide (show w.heap.size ≤ b by omega)
  rw [hb] at HO ⊢
  clear hown hgr hb
  go_wp2
  go_loopw [17] (fun i wr => ∃ (j : Nat) (rs : List Rr), j ≤ m ∧ i = .int .i64 (j : Int) ∧ Hid (RowsAt wr b rs) ∧ Hid (rs.length = 2 * m ∧ ∀ i, i < j → (rs.getD i nilR).2.2 = joinF f g m s i ∧ (rs.getD (i + m) nilR).2.2 = joinF f g m s (i + m)) ∧ Hid (Below w.heap.size w wr))
    (fun i _ => m - (intOf i).toNat)
  case atStart => exact ⟨0, _, by omega, rfl, HO, ⟨by simp, fun j h => absurd h (Nat.not_lt_zero _)⟩, HB2⟩
  case round =>
    obtain ⟨j, rs, hj, rfl, HOr, HRs, HBr⟩ := hrel
    by_cases hlt : j < m
    · obtain ⟨b1, rfl, hb1, H1⟩ := (unhide HA).at
      obtain ⟨b2, rfl, hb2, H2⟩ := (unhide HC).at
      obtain ⟨p1, q1, e1, L1⟩ := H1 j hlt
      obtain ⟨p2, q2, e2, L2⟩ := H2 j hlt
      obtain ⟨F1, F2⟩ := unhide HF j hlt
      obtain ⟨G1, G2⟩ := unhide HG j hlt
      rw [F1] at e1
      rw [G1] at e2
      have x1 : wr.cell? ⟨b1, j, none⟩ = some (.slice p1 h q1) := by rw [(unhide HBr).cell (p := ⟨b1, _, none⟩) hb1]; exact e1
      have x2 : wr.cell? ⟨b2, j, none⟩ = some (.slice p2 h q2) := by rw [(unhide HBr).cell (p := ⟨b2, _, none⟩) hb2]; exact e2
      obtain ⟨P, hP, hP0, hP1⟩ : ∃ P : Int, (j : Int) * (s : Int) = P ∧ 0 ≤ P ∧ P ≤ 4096 := by
        refine ⟨_, rfl, ?_⟩
        have := Nat.mul_le_mul (show j ≤ 64 by omega) (show s ≤ 64 by omega)
        have e : ((j * s : Nat) : Int) = (j : Int) * (s : Int) := by simp
        omega
      have HP := hide hP
      have HL1 := hide (L1.below (unhide HBr))
      have HL2 := hide (L2.below (unhide HBr))
      have HF1 := hide F1
      have HF2 := hide F2
      have HG1 := hide G1
      have HG2 := hide G2
      have X1 := hide x1
      have hbr1 : b1 < wr.heap.size := Nat.lt_of_lt_of_le hb1 (unhide HBr).size
      clear H1 H2 e1 e2 L1 L2 HO HB2 F1 F2 G1 G2
      go_wp2_with fail
      refine (turn_told p2 q2 (g j) h P _ (unhide HL2) (unhide HG2) (unhide HG1) (by omega) (by unfold In64; omega)).mono ?_
      rintro e w4 ⟨a4, l4, c4, rfl, h1, h2, h3⟩
      obtain rfl : l4 = h := by rw [← h1, turn_len, unhide HG1]
      have HB4 := hide ((unhide HBr).trans (h3.mono (unhide HBr).size))
      have HR4 := hide ((unhide HOr).below h3)
      have HL4 := hide h2
      have HLa := hide ((unhide HL1).below h3)
      have HLen := hide h1
      have x1b : w4.cell? ⟨b1, j, none⟩ = some (.slice p1 l4 q1) := by rw [h3.cell (p := ⟨b1, _, none⟩) hbr1]; exact unhide X1
      clear h1 h2 h3 HOr HBr x1 x2 X1
      go_wp2_with fail
      refine (add_two p1 a4 l4 l4 q1 c4 (f j) (turnL (g j) P) w4 w4 (Below.refl _ _) (unhide HLa) (unhide HL4) (unhide HF2) (unhide HF1) (unhide HLen) (by omega)).mono ?_
      rintro e w5 ⟨a5, l5, c5, rfl, h1, h2, h3⟩
      have es : sum2 (f j) (turnL (g j) P) = add2 (f j) (turnL (g j) P) := by unfold sum2; rw [if_pos (by rw [unhide HLen, unhide HF1])]
      rw [es] at h1 h2
      obtain rfl : l5 = l4 := by rw [← h1, add2_len, unhide HF1]
      have HB5 := hide ((unhide HB4).trans (h3.mono (unhide HB4).size))
      have HR5 := hide ((unhide HR4).below h3)
      have HL5 := hide h2
      have HLb := hide ((unhide HLa).below h3)
      have HLf := hide ((unhide HL4).below h3)
      have hbr4 : b1 < w4.heap.size := Nat.lt_of_lt_of_le hb1 (unhide HB4).size
      have x1c : w5.cell? ⟨b1, j, none⟩ = some (.slice p1 l5 q1) := by rw [h3.cell (p := ⟨b1, _, none⟩) hbr4]; exact x1b
      have hcell := (unhide HR5).cell j (by rw [(unhide HRs).1]; omega)
      have hfree := (unhide HR5).1.free j
      have hbb : b1 ≠ b := by have := unhide HBB; omega
      have e5 : rowV (a5, c5, add2 (f j) (turnL (g j) P)) = .slice a5 l5 c5 := by unfold rowV; rw [h1]
      have HR6 := hide ((unhide HR5).set j (a5, c5, add2 (f j) (turnL (g j) P)) (unhide HL5))
      rw [e5] at HR6
      have HLb6 := hide ((unhide HR5).other (unhide HLb) j (.slice a5 l5 c5))
      have HLf6 := hide ((unhide HR5).other (unhide HLf) j (.slice a5 l5 c5))
      have HB6 := hide ((unhide HB5).setCell (p := ⟨b, j, none⟩) (unhide HBB) (.slice a5 l5 c5))
      have x1d : (w5.setCell ⟨b, j, none⟩ (.slice a5 l5 c5)).cell? ⟨b1, j, none⟩ = some (.slice p1 l5 q1) := by
        rw [((Below.refl b w5).setCell (p := ⟨b, j, none⟩) (Nat.le_refl _) (.slice a5 l5 c5)).cell (p := ⟨b1, j, none⟩) (by have := unhide HBB; show b1 < b; omega)]; exact x1c
      generalize rowV (rs.getD j nilR) = z at hcell
      clear h1 h2 h3 e5 es x1b HR4 HL4 HLa HB4 HB5 HL5 HLb HLf HR5
      go_wp2_with fail
      refine (less_any p1 a4 l5 l5 q1 c4 (f j) (turnL (g j) P) _ (unhide HLb6) (unhide HLf6) (unhide HF2) (turn_small _ _ (unhide HG2)) (unhide HF1) (unhide HLen) (by omega) (by omega)).mono ?_
      rintro e w7 ⟨a7, l7, c7, rfl, h1, h2, h3⟩
      have es : less2 (f j) (turnL (g j) P) = lessL (f j) (turnL (g j) P) := by unfold less2; rw [if_pos (by rw [unhide HLen, unhide HF1])]
      rw [es] at h1 h2
      obtain rfl : l7 = l5 := by rw [← h1]; unfold lessL; rw [add2_len, unhide HF1]
      have HB7 := hide ((unhide HB6).trans (h3.mono (unhide HB6).size))
      have HR7 := hide ((unhide HR6).below h3)
      have HL7 := hide h2
      have hcell7 := (unhide HR7).cell (j + m) (by rw [List.length_set, (unhide HRs).1]; omega)
      have hfree7 := (unhide HR7).1.free (j + m)
      have e7 : rowV (a7, c7, lessL (f j) (turnL (g j) P)) = .slice a7 l7 c7 := by unfold rowV; rw [h1]
      have HR8 := hide ((unhide HR7).set (j + m) (a7, c7, lessL (f j) (turnL (g j) P)) (unhide HL7))
      rw [e7] at HR8
      generalize rowV ((rs.set j (a5, c5, add2 (f j) (turnL (g j) P))).getD (j + m) nilR) = z7 at hcell7
      clear h1 h2 h3 e7 es x1c x1d hcell hfree HR6 HR7 HLb6 HLf6 HB6 HL7
      go_wp2
      go_roundw
      case rel =>
        refine ⟨j + 1, _, by omega, by simp, HR8, ?_, (unhide HB7).setCell (unhide HBB) _⟩
        refine ⟨by rw [List.length_set, List.length_set]; exact (unhide HRs).1, fun i hi => ?_⟩
        rw [getDR_set, getDR_set, getDR_set, getDR_set, List.length_set, (unhide HRs).1]
        by_cases c : j = i
        · subst c
          rw [if_neg (by omega), if_pos ⟨rfl, by omega⟩, if_pos ⟨rfl, by omega⟩]
          refine ⟨?_, ?_⟩
          · unfold joinF; rw [if_pos hlt, unhide HP]
          · unfold joinF; rw [if_neg (by omega), Nat.add_sub_cancel, unhide HP]
        · rw [if_neg (by omega), if_neg (fun h => c h.1), if_neg (by omega), if_neg (by omega)]
          exact (unhide HRs).2 i (by omega)
      case measure => simp [intOf]; omega
    · obtain rfl : j = m := by omega
      go_wp2
      go_ret
      refine ⟨_, rfl, ⟨b, rs, rfl, unhide HOr, (unhide HRs).1, fun i hi => ?_⟩, unhide HBr⟩
      by_cases c : i < j
      · exact ((unhide HRs).2 i c).1
      · have := ((unhide HRs).2 (i - j) (by omega)).2
        rwa [Nat.sub_add_cancel (by omega)] at this

/-- So many samples, from number f on, each s further on. -/
def subL (xs : List Int) (s f m : Nat) : List Int := mkL m fun t => xs.getD (f + s * t) 0

theorem sub_evens (xs : List Int) (s f m : Nat) : evens (subL xs s f (2 * m)) m = subL xs (2 * s) f m := by
  unfold evens subL
  refine mkL_congr _ _ _ fun t ht => ?_
  rw [mkL_at _ _ _ (by omega)]
  congr 1
  rw [Nat.mul_comm 2 s, Nat.mul_assoc]

theorem sub_odds (xs : List Int) (s f m : Nat) : odds (subL xs s f (2 * m)) m = subL xs (2 * s) (f + s) m := by
  unfold odds subL
  refine mkL_congr _ _ _ fun t ht => ?_
  rw [mkL_at _ _ _ (by omega)]
  congr 1
  rw [Nat.mul_add, Nat.mul_comm 2 s, Nat.mul_assoc]; omega

theorem sub_all (xs : List Int) (n : Nat) (hn : xs.length = n) : subL xs 1 0 n = xs :=
  mkL_eq _ _ _ hn fun t _ => by congr 1; omega

theorem sub_len (xs : List Int) (s f m : Nat) : (subL xs s f m).length = m := mkL_len _ _

theorem spin_alone (h : Nat) (p : Int) (xs : List Int) (s f : Nat) (hp : p = 0) (h0 : 0 < h) (hx : In64 (xs.getD f 0)) : spinS h p (subL xs s f 1) = oneL h (xs.getD f 0) := by
  subst hp
  unfold spinS oneL
  rw [sub_len]
  refine mkL_congr _ _ _ fun j hj => ?_
  show wrap64 (0 + _ * sg h ((j : Int) - 0 * ((0 : Nat) : Int))) = _
  rw [Int.zero_add, show (j : Int) - 0 * ((0 : Nat) : Int) = (j : Int) by simp]
  unfold subL
  rw [mkL_at _ _ _ (show 0 < 1 by decide), Nat.mul_zero, Nat.add_zero]
  unfold sg
  rw [Int.emod_eq_of_lt (by omega) (by omega)]
  by_cases c : j = 0
  · rw [if_pos (by omega), if_pos c, Int.mul_one, w64_in hx]
  · rw [if_neg (by omega), if_neg (by omega), if_neg c, Int.mul_zero]; exact w64_zero

/-- What the closure holds. -/
structure Env (w : World) (bn bx be : Nat) (a : Option Addr) (n cap : Nat) : Prop where
  hn : w.heap[bn]? = some (.cells #[.int .i64 (n : Int)] 3 (0, 0))
  hx : w.heap[bx]? = some (.cells #[.slice a n cap] 24 (0, 0))
  he : w.heap[be]? = some (.cells #[.func (.func 73) #[] #[.pointer (some ⟨bn, 0, none⟩), .pointer (some ⟨bx, 0, none⟩), .pointer (some ⟨be, 0, none⟩)]] 91 (0, 0))

theorem Env.below {w w' : World} {bn bx be : Nat} {a : Option Addr} {n cap : Nat} (h : Env w bn bx be a n cap) (hb : Below w.heap.size w w') : Env w' bn bx be a n cap :=
  ⟨by rw [hb.block _ (Array.getElem?_eq_some_iff.1 h.hn).1]; exact h.hn, by rw [hb.block _ (Array.getElem?_eq_some_iff.1 h.hx).1]; exact h.hx, by rw [hb.block _ (Array.getElem?_eq_some_iff.1 h.he).1]; exact h.he⟩

theorem join_spins (h m s f n : Nat) (xs : List Int) (hn : n = 2 * h) (hs : n = s * (2 * m)) (h0 : 0 < h) (j : Nat) (hj : j < 2 * m) :
    joinF (fun j => spinS h ((j : Int) * ((2 * s : Nat) : Int)) (subL xs (2 * s) f m)) (fun j => spinS h ((j : Int) * ((2 * s : Nat) : Int)) (subL xs (2 * s) (f + s) m)) m s j = spinS h ((j : Int) * (s : Int)) (subL xs s f (2 * m)) := by
  unfold joinF
  dsimp only
  by_cases c : j < m
  · rw [if_pos c, spin_halves h ((j : Int) * (s : Int)) (subL xs s f (2 * m)) m (sub_len _ _ _ _) h0, sub_evens, sub_odds]
    rw [show (j : Int) * ((2 * s : Nat) : Int) = 2 * ((j : Int) * (s : Int)) by rw [Int.natCast_mul, ← Int.mul_assoc, Int.mul_comm (j : Int), Int.mul_assoc]; rfl]
  · rw [if_neg c]
    have e : (j : Int) * (s : Int) = ((j - m : Nat) : Int) * (s : Int) + (h : Int) := by
      have : (h : Int) = (m : Int) * (s : Int) := by
        have : h = m * s := by
          have e1 : 2 * h = 2 * (m * s) := by rw [← hn, hs, Nat.mul_left_comm, Nat.mul_comm s m]
          omega
        rw [this]; simp
      rw [this, ← Int.add_mul]; congr 1; omega
    rw [e, spin_other h _ (subL xs s f (2 * m)) m (sub_len _ _ _ _) h0, sub_evens, sub_odds]
    rw [show ((j - m : Nat) : Int) * ((2 * s : Nat) : Int) = 2 * (((j - m : Nat) : Int) * (s : Int)) by rw [Int.natCast_mul, ← Int.mul_assoc, Int.mul_comm ((j - m : Nat) : Int), Int.mul_assoc]; rfl]

set_option maxRecDepth 100000 in
theorem every_any (a : Option Addr) (cap n h bn bx be : Nat) (xs : List Int) (hn : xs.length = n) (hh : n = 2 * h) (hm : mayN h) (hs : Small xs) : ∀ (e s f : Nat) (w : World), n = s * 2 ^ e → f < s → Env w bn bx be a n cap → Lies w a xs →
    Calls Tryd.prog 73 #[.int .i64 (s : Int), .int .i64 (f : Int), .pointer (some ⟨bn, 0, none⟩), .pointer (some ⟨bx, 0, none⟩), .pointer (some ⟨be, 0, none⟩)] w fun t w' => ∃ p, t = .returned (.slice p (2 ^ e) (2 ^ e)) ∧ Rws w' p (2 ^ e) (fun j => spinS h ((j : Int) * (s : Int)) (subL xs s f (2 ^ e))) ∧ Below w.heap.size w w' := by
  obtain ⟨hp0, hp1⟩ := mayN_pos hm
  have hn64 : n ≤ 64 := by omega
  intro e
  induction e with
  | zero =>
    intro s f w hse hf henv hl
    obtain rfl : s = n := by simpa using hse.symm
    have c1 := cell_of_one henv.hn
    have c2 := cell_of_one henv.hx
    obtain ⟨ba, oa, rfl, hlta, hca⟩ := hl.some (by intro h; subst h; simp at hn; omega)
    have cx : w.cell? ⟨ba, oa + f, none⟩ = some (.int .i64 (xs.getD f 0)) := hca f (by omega)
    obtain ⟨x, hx⟩ : ∃ x, xs.getD f 0 = x := ⟨_, rfl⟩
    have HX := hide hx
    have hxin : In64 x := by rw [← hx]; exact hs.all f
    rw [hx] at cx
    have HS := hide hs
    have HN := hide hn
    have HH := hide hh
    clear hca hx hs hn hl henv hh hse
    go_enter Tryd.func73, Tryd.ntmps73
    have hbx : bx < w.heap.size := lt_of_cell c2
    have hbn : bn < w.heap.size := lt_of_cell c1
    go_wp2
    have keep : ∀ {w' : World}, Below w.heap.size w w' → w'.cell? ⟨bn, 0, none⟩ = some (.int .i64 (s : Int)) ∧ w'.cell? ⟨bx, 0, none⟩ = some (.slice (some ⟨ba, oa, none⟩) s cap) ∧ w'.cell? ⟨ba, oa + f, none⟩ = some (.int .i64 x) := fun hb =>
      ⟨(hb.cell (p := ⟨bn, _, none⟩) hbn).trans c1, (hb.cell (p := ⟨bx, _, none⟩) hbx).trans c2, (hb.cell (p := ⟨ba, _, none⟩) hlta).trans cx⟩
    go_region_held3 (fun w' => w'.cell? ⟨bn, 0, none⟩ = some (.int .i64 (s : Int)) ∧ w'.cell? ⟨bx, 0, none⟩ = some (.slice (some ⟨ba, oa, none⟩) s cap) ∧ w'.cell? ⟨ba, oa + f, none⟩ = some (.int .i64 x)) (first | exact ⟨c1, c2, cx⟩ | exact keep hb4 | exact keep hb3' | assumption)
      ((go_at_call 74; (with_reducible refine (alone_any x s h w.drew (unhide HH) hp0 (by omega)).mono ?_); rintro t w3 ⟨g, rfl, hg, hc, hb3⟩; have hb3' := spin_undrew hb3; have hb4 := hb3'.alloc hb3'.size (.cells #[.slice (some ⟨g, 0, none⟩) h h] 24)))
    have HB4 := hide hb4
    have HL := hide (show Rws (w3.alloc (.cells #[.slice (some ⟨g, 0, none⟩) h h] 24)) (some ⟨w3.heap.size, 0, none⟩) 1 (fun j => spinS h ((j : Int) * (s : Int)) (subL xs s f 1)) by
      refine ⟨w3.heap.size, [(some ⟨g, 0, none⟩, h, oneL h x)], rfl, ⟨?_, ?_⟩, rfl, fun j hj => ?_⟩
      · have := cells_new w3 [rowV (some ⟨g, 0, none⟩, h, oneL h x)] 24
        unfold rowV at this ⊢
        rw [oneL_len] at this
        simpa [oneL_len] using this
      · intro r hr
        simp at hr
        subst hr
        exact hc.lies.below (alloc_below _ _)
      · obtain rfl : j = 0 := by omega
        show oneL h x = spinS h (((0 : Nat) : Int) * (s : Int)) (subL xs s f 1)
        rw [spin_alone h _ xs s f (by simp) hp0 (by rw [unhide HX]; exact hxin), unhide HX])
    clear hb3 hb3' hb4 hc keep c1 c2 cx
    go_wp2
    go_ret
    exact ⟨_, rfl, unhide HL, unhide HB4⟩
  | succ e ih =>
    intro s f w hse hf henv hl
    have he8 : (2 : Nat) ^ (e + 1) = 2 * 2 ^ e := by rw [Nat.pow_succ, Nat.mul_comm]
    obtain ⟨m, hm2⟩ : ∃ m, 2 ^ e = m := ⟨_, rfl⟩
    have hmp : 0 < m := by rw [← hm2]; exact Nat.two_pow_pos e
    rw [hm2] at ih
    rw [he8, hm2] at hse ⊢
    have hsm : n = (2 * s) * m := by rw [hse, Nat.mul_left_comm, Nat.mul_assoc]
    have hs2 : 2 * s ≤ n := by rw [hsm]; exact Nat.le_mul_of_pos_right _ hmp
    have hmn : m ≤ n := by rw [hsm]; exact Nat.le_mul_of_pos_left _ (by omega)
    have hne : ((s : Int) == (n : Int)) = false := by simp; omega
    have c1 := cell_of_one henv.hn
    have c3 := cell_of_one henv.he
    have hbn : bn < w.heap.size := lt_of_cell c1
    have hbe : be < w.heap.size := lt_of_cell c3
    have IH := hide ih
    have HE := hide henv
    have HL := hide hl
    have HSE := hide hse
    have HSM := hide hsm
    have HH := hide hh
    clear ih henv hl hse hsm hm2 he8 hh
    go_enter Tryd.func73, Tryd.ntmps73
    go_wp2
    obtain ⟨u, hu⟩ : ∃ u, 2 * s = u := ⟨_, rfl⟩
    have hui : (2 : Int) * (s : Int) = (u : Int) := by omega
    have HU := hide hu
    obtain ⟨v, hv⟩ : ∃ v, f + s = v := ⟨_, rfl⟩
    have hvi : (f : Int) + (s : Int) = (v : Int) := by omega
    have HV := hide hv
    rw [hu] at hs2 HSM
    have hfu : f < u := by omega
    have hvu : v < u := by omega
    have hbd : Below w.heap.size w w.drew := ⟨rfl, rfl, rfl, Nat.le_refl _, fun _ _ => rfl⟩
    have hwu : IntKind.i64.wrap (u : Int) = (u : Int) := by rw [IntKind.wrap_i64]; omega
    have hwv : IntKind.i64.wrap (v : Int) = (v : Int) := by rw [IntKind.wrap_i64]; omega
    clear hu hv
    go_region_held3 (fun w' => w'.cell? ⟨be, 0, none⟩ = some (.func (.func 73) #[] #[.pointer (some ⟨bn, 0, none⟩), .pointer (some ⟨bx, 0, none⟩), .pointer (some ⟨be, 0, none⟩)]))
      (first | exact c3 | exact (hb6'.cell (p := ⟨be, _, none⟩) hbe).trans c3 | exact (hb5'.cell (p := ⟨be, _, none⟩) hbe).trans c3 | exact (hb4'.cell (p := ⟨be, _, none⟩) hbe).trans c3 | assumption)
      (first
        | (go_at_call 73; (with_reducible refine (unhide IH u v w4 (unhide HSM) hvu ((unhide HE).below hb4') ((unhide HL).below hb4')).mono ?_); rintro t w5 ⟨p5, rfl, hr5, hb5⟩; have hb5' := below_trans hb4' hb5; have hr4' := hr4.below hb5)
        | (go_at_call 73; (with_reducible refine (unhide IH u f w.drew (unhide HSM) hfu ((unhide HE).below hbd) ((unhide HL).below hbd)).mono ?_); rintro t w4 ⟨p4, rfl, hr4, hb4⟩; have hb4' := spin_undrew hb4)
        | (go_at_call 75; (with_reducible refine (joined_any p4 p5 m m m h s _ _ w5 hr4' hr5 (fun j _ => ⟨spinS_len _ _ _, spinS_small _ _ _⟩) (fun j _ => ⟨spinS_len _ _ _, spinS_small _ _ _⟩) (by omega) (by omega) (by omega)).mono ?_); rintro t w6 ⟨p6, rfl, hr6, hb6⟩; have hb6' := below_trans hb5' hb6))
    have HR6 := hide hr6
    have HB6 := hide hb6'
    clear hr6 hb6' hr5 hr4 hr4' hb4 hb5 hb4' hb5' hb6
    go_wp2
    go_ret
    refine ⟨_, rfl, (unhide HR6).congr fun j hj => ?_, unhide HB6⟩
    have := join_spins h m s f n xs (unhide HH) (unhide HSE) hp0 j hj
    rw [unhide HU, unhide HV] at this
    exact this

theorem mayF_pow {n : Nat} (h : mayF n) : ∃ e, n = 2 ^ e := by
  rcases h with rfl | rfl | rfl | rfl | rfl | rfl
  · exact ⟨1, rfl⟩
  · exact ⟨2, rfl⟩
  · exact ⟨3, rfl⟩
  · exact ⟨4, rfl⟩
  · exact ⟨5, rfl⟩
  · exact ⟨6, rfl⟩

set_option maxRecDepth 100000 in
theorem spins_yes (a : Option Addr) (cap n h : Nat) (xs : List Int) (w : World) (hl : Lies w a xs) (hs : Small xs) (hn : xs.length = n) (hh : n = 2 * h) (hm : mayN h) :
    Calls Tryd.prog 52 #[.slice a n cap] w fun e w' => ∃ p, e = .returned (.slice p n n) ∧ Rws w' p n (fun j => spinS h (j : Int) xs) ∧ Below w.heap.size w w' := by
  have hM : mayF n := by rw [hh]; exact mayF_of hm
  have HM := hide hM
  have HL := hide hl
  have HN := hide hn
  have HS := hide hs
  have HH := hide hh
  clear hl hn hs hM hh
  go_enter Tryd.func52, Tryd.ntmps52
  go_wp2_with fail
  refine (fmay_yes n _ (unhide HM)).mono ?_
  rintro e w0 ⟨rfl, rfl⟩
  go_wp2_with fail
  obtain ⟨W3, h3, hB3, hX3, hN3, hE3⟩ : ∃ W3, (((w.alloc (.cells #[.slice a n cap] 24)).alloc (.cells #[.int .i64 (n : Int)] 3)).alloc (.cells #[.func (.func 73) #[] #[.pointer (some ⟨w.heap.size + 1, 0, none⟩), .pointer (some ⟨w.heap.size, 0, none⟩), .pointer (some ⟨w.heap.size + 1 + 1, 0, none⟩)]] 91)) = W3 ∧ Below w.heap.size w W3 ∧
      W3.heap[w.heap.size]? = some (.cells #[.slice a n cap] 24 (0, 0)) ∧ W3.heap[w.heap.size + 1]? = some (.cells #[.int .i64 (n : Int)] 3 (0, 0)) ∧ W3.heap[w.heap.size + 1 + 1]? = some (.cells #[.func (.func 73) #[] #[.pointer (some ⟨w.heap.size + 1, 0, none⟩), .pointer (some ⟨w.heap.size, 0, none⟩), .pointer (some ⟨w.heap.size + 1 + 1, 0, none⟩)]] 91 (0, 0)) := by
    have b1 := alloc_below w (.cells #[.slice a n cap] 24)
    have b2 := alloc_below (w.alloc (.cells #[.slice a n cap] 24)) (.cells #[.int .i64 (n : Int)] 3)
    have b3 := alloc_below ((w.alloc (.cells #[.slice a n cap] 24)).alloc (.cells #[.int .i64 (n : Int)] 3)) (.cells #[.func (.func 73) #[] #[.pointer (some ⟨w.heap.size + 1, 0, none⟩), .pointer (some ⟨w.heap.size, 0, none⟩), .pointer (some ⟨w.heap.size + 1 + 1, 0, none⟩)]] 91)
    have e2 := new_one (w.alloc (.cells #[.slice a n cap] 24)) (.int .i64 (n : Int)) 3
    have e3 := new_one ((w.alloc (.cells #[.slice a n cap] 24)).alloc (.cells #[.int .i64 (n : Int)] 3)) (.func (.func 73) #[] #[.pointer (some ⟨w.heap.size + 1, 0, none⟩), .pointer (some ⟨w.heap.size, 0, none⟩), .pointer (some ⟨w.heap.size + 1 + 1, 0, none⟩)]) 91
    rw [World.size_alloc] at e2
    rw [World.size_alloc, World.size_alloc] at e3
    refine ⟨_, rfl, below_trans b1 (below_trans b2 b3), ?_, ?_, e3⟩
    · rw [(below_trans b2 b3).block _ (by simp)]; exact new_one _ _ _
    · rw [b3.block _ (by simp)]; exact e2
  rw [h3]
  clear h3
  obtain ⟨e, he⟩ := mayF_pow (unhide HM)
  have hc := every_any a cap n h (w.heap.size + 1) w.heap.size (w.heap.size + 1 + 1) xs (unhide HN) (unhide HH) hm (unhide HS) e 1 0 W3 (by omega) (by decide) ⟨hN3, hX3, hE3⟩ ((unhide HL).below hB3)
  rw [← he] at hc
  have HB3 := hide hB3
  clear hB3 hX3 hN3 hE3 he
  refine Calls.mono hc ?_
  rintro t w4 ⟨p, rfl, hr, hb⟩
  have HR := hide (hr.congr (g := fun j => spinS h (j : Int) xs) fun j hj => by
    rw [sub_all xs n (unhide HN)]; congr 1; simp)
  have HB4 := hide (below_trans (unhide HB3) hb)
  clear hr hb hc
  go_wp2
  go_ret
  exact ⟨p, rfl, unhide HR, unhide HB4⟩

def sizedL (xs : List Int) (h : Nat) : List Int := mkL h fun i => xs.getD i 0

def sizTo (xs : List Int) (h j : Nat) : List Int := mkL h fun i => if i < j then xs.getD i 0 else 0

theorem sizTo_len (xs : List Int) (h j : Nat) : (sizTo xs h j).length = h := mkL_len _ _

theorem sizTo_zero (xs : List Int) (h : Nat) : sizTo xs h 0 = List.replicate h 0 := mkL_eq _ _ _ (by simp) fun i hi => by rw [if_neg (by omega), zero_at]

theorem sizTo_set (xs : List Int) (h j : Nat) (hj : j < h) : (sizTo xs h j).set j (xs.getD j 0) = sizTo xs h (j + 1) := by
  refine list_same (by rw [List.length_set, sizTo_len, sizTo_len]) fun i hi => ?_
  rw [List.length_set, sizTo_len] at hi
  rw [getD_set, sizTo_len]
  by_cases c : j = i
  · subst c; rw [if_pos ⟨rfl, hj⟩]; unfold sizTo; rw [mkL_at _ _ _ hj, if_pos (by omega)]
  · rw [if_neg (fun h => c h.1)]; unfold sizTo; rw [mkL_at _ _ _ hi, mkL_at _ _ _ hi]
    by_cases d : i < j
    · rw [if_pos d, if_pos (by omega)]
    · rw [if_neg d, if_neg (by omega)]

theorem sizTo_all (xs : List Int) (h j : Nat) (hj : h ≤ j ∨ xs.length ≤ j) : sizTo xs h j = sizedL xs h := by
  unfold sizTo sizedL
  refine mkL_congr _ _ _ fun i hi => ?_
  by_cases c : i < j
  · rw [if_pos c]
  · rw [if_neg c, getD_over xs i (by omega)]

theorem sized_same (xs : List Int) (h : Nat) (hn : xs.length = h) : sizedL xs h = xs := mkL_eq _ _ _ hn fun _ _ => rfl

/-- The first m rows at block b are as f tells. -/
def RAt (w : World) (b m : Nat) (f : Nat → List Int) : Prop := b < w.heap.size ∧ ∀ j, j < m → ∃ p c, w.cell? ⟨b, j, none⟩ = some (.slice p (f j).length c) ∧ Lies w p (f j)

theorem RAt.below {w w' : World} {b m : Nat} {f : Nat → List Int} (h : RAt w b m f) (hb : Below w.heap.size w w') : RAt w' b m f :=
  ⟨Nat.lt_of_lt_of_le h.1 hb.size, fun j hj => by obtain ⟨p, c, h1, h2⟩ := h.2 j hj; exact ⟨p, c, by rw [hb.cell (p := ⟨b, j, none⟩) h.1]; exact h1, h2.below hb⟩⟩

theorem RAt.less {w : World} {b m k : Nat} {f : Nat → List Int} (h : RAt w b m f) (hk : k ≤ m) : RAt w b k f := ⟨h.1, fun j hj => h.2 j (by omega)⟩

theorem Rws.rat {w : World} {a : Option Addr} {m : Nat} {f : Nat → List Int} (h : Rws w a m f) : ∃ b, a = some ⟨b, 0, none⟩ ∧ RAt w b m f := by
  obtain ⟨b, h1, h2, h3⟩ := h.at
  exact ⟨b, h1, h2, h3⟩

/-- What is called on a row, and tells a number of it. -/
def Tells (fn : Nat) (val : List Int → Int) : Prop := ∀ (a : Option Addr) (cap n : Nat) (xs : List Int) (w : World), Lies w a xs → Small xs → xs.length = n → Quar w →
    Calls Tryd.prog fn #[.slice a n cap] w fun e w' => e = .returned (.int .i64 (val xs)) ∧ Below w.heap.size w w'

theorem real_tells : Tells 54 (partI cosC) := fun a cap n xs w hl hs hn hq => real_any a cap n xs w hl hs hn hq

theorem imag_tells : Tells 55 (partI sinC) := fun a cap n xs w hl hs hn hq => imag_any a cap n xs w hl hs hn hq

set_option maxRecDepth 100000 in
theorem each_real (b m h cap : Nat) (f : Nat → List Int) (w : World) (hr : RAt w b m f) (hq : Quar w) (hf : ∀ j, j < m → (f j).length = h ∧ Small (f j)) (hm : m ≤ 1000) (hh : h ≤ 1000) :
    Calls Tryd.prog 53 #[.slice (some ⟨b, 0, none⟩) m cap, .func (.func 54) #[] #[]] w fun e w' => ∃ g, e = .returned (.slice (some ⟨g, 0, none⟩) m m) ∧ w.heap.size ≤ g ∧ Cells w' g (ints (mkL m fun j => partI cosC (f j))) ∧ Below w.heap.size w w' := by
  obtain ⟨i0, hi, hz0, hz1, hz2⟩ := info_parts Tryd.info3
  have HR := hide hr
  have HQ := hide hq
  have HF := hide hf
  have HV := hide real_tells
  clear hr hq hf
  go_enter Tryd.func53, Tryd.ntmps53
  go_wp2_with (at_make; refine wpList_make_full _ rfl _ _ 24 rfl w.heap.size 3 i0 (.int .i64 0) 1 Tryd.underlying24 hi hz0 hz1 _ _ _ _ m rfl rfl rfl rfl ?m1 ?m2 ?m3 ?_)
  case m1 => rw [hz2]; omega
  case m2 => unfold maxLen; omega
  case m3 => exact Nat.le_refl _
  intro w2 hown hgr
  rw [ints_zero] at hown
  have HO := hide (own_cells hown)
  have HB2 := hide ((Below.refl w.heap.size w).grown hgr (Nat.le_refl _) (fun _ h => by cases h))
  clear hown hgr
  obtain ⟨L, hL⟩ : ∃ L, (mkL m fun j => partI cosC (f j)) = L := ⟨_, rfl⟩
  rw [← sizTo_zero L m] at HO
  have HLen := hide (show L.length = m by rw [← hL, mkL_len])
  have HLat := hide (show ∀ j, j < m → L.getD j 0 = partI cosC (f j) from fun j hj => by rw [← hL, mkL_at _ _ _ hj])
  have HLE := hide hL
  clear hL
  go_wp2
  go_loopw [13] (fun i wr => ∃ j : Nat, j ≤ m ∧ i = .int .i64 (j : Int) ∧ Hid (Cells wr w.heap.size (ints (sizTo L m j))) ∧ Hid (Below w.heap.size w wr))
    (fun i _ => m - (intOf i).toNat)
  case atStart => exact ⟨0, by omega, rfl, HO, HB2⟩
  case round =>
    obtain ⟨j, hj, rfl, HOr, HBr⟩ := hrel
    by_cases c1 : j < m
    · obtain ⟨p, q, e1, L1⟩ := ((unhide HR).below (unhide HBr)).2 j c1
      obtain ⟨F1, F2⟩ := unhide HF j c1
      rw [F1] at e1
      have HL1 := hide L1
      have HF1 := hide F1
      have HF2 := hide F2
      have HVJ := hide (unhide HLat j c1)
      clear L1 F1 F2 HO HB2
      go_wp2_with fail
      refine (unhide HV p q h (f j) _ (unhide HL1) (unhide HF2) (unhide HF1) ((unhide HQ).below (unhide HBr))).mono ?_
      rintro e w3 ⟨rfl, hb⟩
      have HB3 := hide ((unhide HBr).trans (hb.mono (unhide HBr).size))
      have HO3 := hide ((unhide HOr).below hb)
      have hcell := (unhide HO3).cell j _ (ints_at _ j (by rw [sizTo_len]; exact c1))
      have hfree := (unhide HO3).free j
      have HSet := hide (sizTo_set L m j c1)
      rw [unhide HVJ] at HSet
      generalize partI cosC (f j) = y at HSet ⊢
      generalize (sizTo L m j).getD j 0 = z at hcell
      clear hb HBr HOr e1
      go_wp2
      go_roundw
      case rel =>
        refine ⟨j + 1, by omega, by simp, ?_, (unhide HB3).setCell (Nat.le_refl _) _⟩
        have := (unhide HO3).set j (.int .i64 y)
        rw [ints_set, unhide HSet] at this
        exact this
      case measure => simp [intOf]; omega
    · obtain rfl : j = m := by omega
      rw [sizTo_all L j j (.inl (Nat.le_refl _)), sized_same L j (unhide HLen)] at HOr
      go_wp2
      go_ret
      exact ⟨_, rfl, Nat.le_refl _, by rw [unhide HLE]; exact unhide HOr, unhide HBr⟩

set_option maxRecDepth 100000 in
theorem each_imag (b m h cap : Nat) (f : Nat → List Int) (w : World) (hr : RAt w b m f) (hq : Quar w) (hf : ∀ j, j < m → (f j).length = h ∧ Small (f j)) (hm : m ≤ 1000) (hh : h ≤ 1000) :
    Calls Tryd.prog 53 #[.slice (some ⟨b, 0, none⟩) m cap, .func (.func 55) #[] #[]] w fun e w' => ∃ g, e = .returned (.slice (some ⟨g, 0, none⟩) m m) ∧ w.heap.size ≤ g ∧ Cells w' g (ints (mkL m fun j => partI sinC (f j))) ∧ Below w.heap.size w w' := by
  obtain ⟨i0, hi, hz0, hz1, hz2⟩ := info_parts Tryd.info3
  have HR := hide hr
  have HQ := hide hq
  have HF := hide hf
  have HV := hide imag_tells
  clear hr hq hf
  go_enter Tryd.func53, Tryd.ntmps53
  go_wp2_with (at_make; refine wpList_make_full _ rfl _ _ 24 rfl w.heap.size 3 i0 (.int .i64 0) 1 Tryd.underlying24 hi hz0 hz1 _ _ _ _ m rfl rfl rfl rfl ?m1 ?m2 ?m3 ?_)
  case m1 => rw [hz2]; omega
  case m2 => unfold maxLen; omega
  case m3 => exact Nat.le_refl _
  intro w2 hown hgr
  rw [ints_zero] at hown
  have HO := hide (own_cells hown)
  have HB2 := hide ((Below.refl w.heap.size w).grown hgr (Nat.le_refl _) (fun _ h => by cases h))
  clear hown hgr
  obtain ⟨L, hL⟩ : ∃ L, (mkL m fun j => partI sinC (f j)) = L := ⟨_, rfl⟩
  rw [← sizTo_zero L m] at HO
  have HLen := hide (show L.length = m by rw [← hL, mkL_len])
  have HLat := hide (show ∀ j, j < m → L.getD j 0 = partI sinC (f j) from fun j hj => by rw [← hL, mkL_at _ _ _ hj])
  have HLE := hide hL
  clear hL
  go_wp2
  go_loopw [13] (fun i wr => ∃ j : Nat, j ≤ m ∧ i = .int .i64 (j : Int) ∧ Hid (Cells wr w.heap.size (ints (sizTo L m j))) ∧ Hid (Below w.heap.size w wr))
    (fun i _ => m - (intOf i).toNat)
  case atStart => exact ⟨0, by omega, rfl, HO, HB2⟩
  case round =>
    obtain ⟨j, hj, rfl, HOr, HBr⟩ := hrel
    by_cases c1 : j < m
    · obtain ⟨p, q, e1, L1⟩ := ((unhide HR).below (unhide HBr)).2 j c1
      obtain ⟨F1, F2⟩ := unhide HF j c1
      rw [F1] at e1
      have HL1 := hide L1
      have HF1 := hide F1
      have HF2 := hide F2
      have HVJ := hide (unhide HLat j c1)
      clear L1 F1 F2 HO HB2
      go_wp2_with fail
      refine (unhide HV p q h (f j) _ (unhide HL1) (unhide HF2) (unhide HF1) ((unhide HQ).below (unhide HBr))).mono ?_
      rintro e w3 ⟨rfl, hb⟩
      have HB3 := hide ((unhide HBr).trans (hb.mono (unhide HBr).size))
      have HO3 := hide ((unhide HOr).below hb)
      have hcell := (unhide HO3).cell j _ (ints_at _ j (by rw [sizTo_len]; exact c1))
      have hfree := (unhide HO3).free j
      have HSet := hide (sizTo_set L m j c1)
      rw [unhide HVJ] at HSet
      generalize partI sinC (f j) = y at HSet ⊢
      generalize (sizTo L m j).getD j 0 = z at hcell
      clear hb HBr HOr e1
      go_wp2
      go_roundw
      case rel =>
        refine ⟨j + 1, by omega, by simp, ?_, (unhide HB3).setCell (Nat.le_refl _) _⟩
        have := (unhide HO3).set j (.int .i64 y)
        rw [ints_set, unhide HSet] at this
        exact this
      case measure => simp [intOf]; omega
    · obtain rfl : j = m := by omega
      rw [sizTo_all L j j (.inl (Nat.le_refl _)), sized_same L j (unhide HLen)] at HOr
      go_wp2
      go_ret
      exact ⟨_, rfl, Nat.le_refl _, by rw [unhide HLE]; exact unhide HOr, unhide HBr⟩

def downL (s : Int) (xs : List Int) : List Int := xs.map fun x => halfI x s

/-- The closure that moves down. -/
theorem down_any (x s : Int) (bs : Nat) (w : World) (hb : w.heap[bs]? = some (.cells #[.int .i64 s] 3 (0, 0))) (hx : In64 x) :
    Calls Tryd.prog 57 #[.int .i64 x, .pointer (some ⟨bs, 0, none⟩)] w fun e w' => e = .returned (.int .i64 (halfI x s)) ∧ Below w.heap.size w w' := by
  have c1 := cell_of_one hb
  clear hb
  go_enter Tryd.func57, Tryd.ntmps57
  go_wp2_with fail
  refine (half_any x s _ hx).mono ?_
  rintro e w1 ⟨rfl, hb⟩
  go_wp2
  go_ret
  exact ⟨rfl, hb⟩

set_option maxRecDepth 100000 in
theorem each_down (bs : Nat) (s : Int) (a : Option Addr) (m cap : Nat) (xs : List Int) (w : World) (hl : Lies w a xs) (hs : Small xs) (hn : xs.length = m) (hp : w.heap[bs]? = some (.cells #[.int .i64 s] 3 (0, 0))) (hm : m ≤ 1000) :
    Calls Tryd.prog 58 #[.slice a m cap, .func (.func 57) #[] #[.pointer (some ⟨bs, 0, none⟩)]] w fun e w' => ∃ g, e = .returned (.slice (some ⟨g, 0, none⟩) m m) ∧ w.heap.size ≤ g ∧ Cells w' g (ints (downL s xs)) ∧ Below w.heap.size w w' := by
  obtain ⟨i0, hi, hz0, hz1, hz2⟩ := info_parts Tryd.info3
  have HLi := hide hl
  have HS := hide hs
  have HN := hide hn
  have HPW := hide hp
  clear hl hs hn hp
  go_enter Tryd.func58, Tryd.ntmps58
  go_wp2_with (at_make; refine wpList_make_full _ rfl _ _ 24 rfl w.heap.size 3 i0 (.int .i64 0) 1 Tryd.underlying24 hi hz0 hz1 _ _ _ _ m rfl rfl rfl rfl ?m1 ?m2 ?m3 ?_)
  case m1 => rw [hz2]; omega
  case m2 => unfold maxLen; omega
  case m3 => exact Nat.le_refl _
  intro w2 hown hgr
  rw [ints_zero] at hown
  have HO := hide (own_cells hown)
  have HB2 := hide ((Below.refl w.heap.size w).grown hgr (Nat.le_refl _) (fun _ h => by cases h))
  clear hown hgr
  obtain ⟨L, hL⟩ : ∃ L, downL s xs = L := ⟨_, rfl⟩
  rw [← sizTo_zero L m] at HO
  have HLen := hide (show L.length = m by rw [← hL]; unfold downL; rw [List.length_map, unhide HN])
  have HLat := hide (show ∀ j, j < m → L.getD j 0 = halfI (xs.getD j 0) s from fun j hj => by
    have hk : j < xs.length := by rw [unhide HN]; exact hj
    rw [← hL]; unfold downL; simp [List.getD_eq_getElem?_getD, List.getElem?_eq_getElem hk])
  have HLE := hide hL
  clear hL
  go_wp2
  go_loopw [13] (fun i wr => ∃ j : Nat, j ≤ m ∧ i = .int .i64 (j : Int) ∧ Hid (Cells wr w.heap.size (ints (sizTo L m j))) ∧ Hid (Below w.heap.size w wr))
    (fun i _ => m - (intOf i).toNat)
  case atStart => exact ⟨0, by omega, rfl, HO, HB2⟩
  case round =>
    obtain ⟨j, hj, rfl, HOr, HBr⟩ := hrel
    by_cases c1 : j < m
    · obtain ⟨ba, oa, rfl, hlta, hca⟩ := (unhide HLi).some (by intro h; have := unhide HN; subst h; simp at this; omega)
      have cx : wr.cell? ⟨ba, oa + j, none⟩ = some (.int .i64 (xs.getD j 0)) := by rw [(unhide HBr).cell (p := ⟨ba, _, none⟩) hlta]; exact hca j (by rw [unhide HN]; exact c1)
      have hxin : In64 (xs.getD j 0) := (unhide HS).all j
      have HVJ := hide (unhide HLat j c1)
      generalize xs.getD j 0 = x at cx hxin HVJ
      clear hca HO HB2
      go_wp2_with fail
      refine (down_any x s bs _ (by rw [(unhide HBr).block _ (Array.getElem?_eq_some_iff.1 (unhide HPW)).1]; exact unhide HPW) hxin).mono ?_
      rintro e w3 ⟨rfl, hb⟩
      have HB3 := hide ((unhide HBr).trans (hb.mono (unhide HBr).size))
      have HO3 := hide ((unhide HOr).below hb)
      have hcell := (unhide HO3).cell j _ (ints_at _ j (by rw [sizTo_len]; exact c1))
      have hfree := (unhide HO3).free j
      have HSet := hide (sizTo_set L m j c1)
      rw [unhide HVJ] at HSet
      generalize halfI x s = y at HSet ⊢
      generalize (sizTo L m j).getD j 0 = z at hcell
      clear hb HBr HOr cx
      go_wp2
      go_roundw
      case rel =>
        refine ⟨j + 1, by omega, by simp, ?_, (unhide HB3).setCell (Nat.le_refl _) _⟩
        have := (unhide HO3).set j (.int .i64 y)
        rw [ints_set, unhide HSet] at this
        exact this
      case measure => simp [intOf]; omega
    · obtain rfl : j = m := by omega
      rw [sizTo_all L j j (.inl (Nat.le_refl _)), sized_same L j (unhide HLen)] at HOr
      go_wp2
      go_ret
      exact ⟨_, rfl, Nat.le_refl _, by rw [unhide HLE]; exact unhide HOr, unhide HBr⟩

/-- The squares of both parts together, where there are both. -/
def powL (re im : List Int) : List Int := mkL (min re.length im.length) fun b => wrap64 (re.getD b 0 * re.getD b 0 + im.getD b 0 * im.getD b 0)

theorem powL_len (re im : List Int) : (powL re im).length = min re.length im.length := mkL_len _ _

set_option maxRecDepth 100000 in
theorem power_any (a1 a2 : Option Addr) (m1 m2 c1 c2 : Nat) (xs ys : List Int) (w : World) (hx : Lies w a1 xs) (hy : Lies w a2 ys) (sx : Small xs) (sy : Small ys) (h1 : xs.length = m1) (h2 : ys.length = m2) (hm1 : m1 ≤ 1000) (hm2 : m2 ≤ 1000) :
    Calls Tryd.prog 46 #[.slice a1 m1 c1, .slice a2 m2 c2] w (Told (powL xs ys) w) := by
  obtain ⟨i0, hi, hz0, hz1, hz2⟩ := info_parts Tryd.info3
  obtain ⟨m, hm⟩ : ∃ m, min m1 m2 = m := ⟨_, rfl⟩
  have HMN := hide (show min (m1 : Int) (m2 : Int) = (m : Int) by omega)
  have HX := hide hx
  have HY := hide hy
  have S1 := hide sx
  have S2 := hide sy
  have H1 := hide h1
  have H2 := hide h2
  have HM := hide hm
  have hle1 : m ≤ m1 := by omega
  have hle2 : m ≤ m2 := by omega
  clear hx hy sx sy h1 h2 hm
  go_enter Tryd.func46, Tryd.ntmps46
  go_wp2_with (at_make; rw [unhide HMN]; refine wpList_make_full _ rfl _ _ 24 rfl w.heap.size 3 i0 (.int .i64 0) 1 Tryd.underlying24 hi hz0 hz1 _ _ _ _ m rfl rfl rfl rfl ?m1 ?m2 ?m3 ?_)
  case m1 => rw [hz2]; omega
  case m2 => unfold maxLen; omega
  case m3 => exact Nat.le_refl _
  intro w2 hown hgr
  rw [ints_zero] at hown
  have HO := hide (own_cells hown)
  have HB2 := hide ((Below.refl w.heap.size w).grown hgr (Nat.le_refl _) (fun _ h => by cases h))
  clear hown hgr
  obtain ⟨L, hL⟩ : ∃ L, powL xs ys = L := ⟨_, rfl⟩
  rw [← sizTo_zero L m] at HO
  have HLen := hide (show L.length = m by rw [← hL, powL_len, unhide H1, unhide H2, unhide HM])
  have HLat := hide (show ∀ j, j < m → L.getD j 0 = wrap64 (xs.getD j 0 * xs.getD j 0 + ys.getD j 0 * ys.getD j 0) from fun j hj => by rw [← hL]; unfold powL; rw [mkL_at _ _ _ (by rw [unhide H1, unhide H2, unhide HM]; exact hj)])
  have HLE := hide hL
  clear hL
  go_wp2
  go_loopw [15] (fun i wr => ∃ j : Nat, j ≤ m ∧ i = .int .i64 (j : Int) ∧ Hid (Cells wr w.heap.size (ints (sizTo L m j))) ∧ Hid (Below w.heap.size w wr))
    (fun i _ => m - (intOf i).toNat)
  case atStart => exact ⟨0, by omega, rfl, HO, HB2⟩
  case round =>
    obtain ⟨j, hj, rfl, HOr, HBr⟩ := hrel
    by_cases c1 : j < m
    · obtain ⟨ba, oa, rfl, hlta, hca⟩ := (unhide HX).some (by intro h; have := unhide H1; subst h; simp at this; omega)
      obtain ⟨bb, ob, rfl, hltb, hcb⟩ := (unhide HY).some (by intro h; have := unhide H2; subst h; simp at this; omega)
      have cx : wr.cell? ⟨ba, oa + j, none⟩ = some (.int .i64 (xs.getD j 0)) := by rw [(unhide HBr).cell (p := ⟨ba, _, none⟩) hlta]; exact hca j (by rw [unhide H1]; omega)
      have cy : wr.cell? ⟨bb, ob + j, none⟩ = some (.int .i64 (ys.getD j 0)) := by rw [(unhide HBr).cell (p := ⟨bb, _, none⟩) hltb]; exact hcb j (by rw [unhide H2]; omega)
      have HVJ := hide (unhide HLat j c1)
      generalize xs.getD j 0 = x at cx HVJ
      generalize ys.getD j 0 = y at cy HVJ
      have hcell := (unhide HOr).cell j _ (ints_at _ j (by rw [sizTo_len]; exact c1))
      have hfree := (unhide HOr).free j
      have HSet := hide (sizTo_set L m j c1)
      rw [unhide HVJ] at HSet
      generalize (sizTo L m j).getD j 0 = z at hcell
      obtain ⟨P, hP⟩ : ∃ P, x * x = P := ⟨_, rfl⟩
      obtain ⟨Q, hQ⟩ : ∃ Q, y * y = Q := ⟨_, rfl⟩
      have HV := hide (show wrap64 (wrap64 P + wrap64 Q) = wrap64 (P + Q) by unfold wrap64; omega)
      rw [hP, hQ] at HSet
      have HP := hide hP
      have HQ := hide hQ
      have hjm1 : (j : Int) < (m1 : Int) := by omega
      have hjm2 : (j : Int) < (m2 : Int) := by omega
      clear hca hcb hP hQ HO HB2
      go_wp2
      go_region
      rw [unhide HP, unhide HQ, unhide HV]
      go_wp2
      go_roundw
      case rel =>
        refine ⟨j + 1, by omega, by simp, ?_, ?_⟩
        · have := (unhide HOr).set j (.int .i64 (wrap64 (P + Q)))
          rw [ints_set, unhide HSet] at this
          exact this.drew
        · exact ((unhide HBr).setCell (Nat.le_refl _) _).drew
      case measure => simp [intOf]; omega
    · obtain rfl : j = m := by omega
      rw [sizTo_all L j j (.inl (Nat.le_refl _)), sized_same L j (unhide HLen)] at HOr
      go_wp2
      go_ret
      exact ⟨_, j, j, rfl, by rw [unhide HLE]; exact unhide HLen, by rw [unhide HLE]; exact (unhide HOr).lies, unhide HBr⟩

/-- The parts of the spins up to half a circle. -/
def partsL (c : Nat → Int) (h : Nat) (xs : List Int) : List Int := mkL (h + 1) fun k => partI c (spinS h (k : Int) xs)

theorem parts_len (c : Nat → Int) (h : Nat) (xs : List Int) : (partsL c h xs).length = h + 1 := mkL_len _ _

theorem parts_small (c : Nat → Int) (h : Nat) (xs : List Int) : Small (partsL c h xs) := small_mk _ _ fun k _ => by
  unfold partI; split
  · exact in_w64 _
  · constructor <;> decide

/-- How much they are moved down. -/
def movS (h : Nat) (xs : List Int) : Int := shiftI (partsL cosC h xs ++ partsL sinC h xs)

theorem mov_max (h : Nat) (xs : List Int) : movS h xs = max (max (normI (partsL cosC h xs)) (normI (partsL sinC h xs))) 15 - 15 := by
  unfold movS shiftI normI
  rw [normN_append]
  split <;> omega

theorem norm_bd (xs : List Int) (hs : Small xs) : 0 ≤ normI xs ∧ normI xs ≤ 64 := by
  unfold normI
  rcases normN_met xs with e | ⟨x, hx, e⟩
  · omega
  · have := bl_le x.natAbs 64 (by obtain ⟨h1, h2⟩ := hs x hx; omega)
    omega

set_option maxRecDepth 100000 in
theorem bins_yes (a : Option Addr) (cap n h : Nat) (xs : List Int) (w : World) (hl : Lies w a xs) (hs : Small xs) (hn : xs.length = n) (hh : n = 2 * h) (hm : mayN h) (hq : Quar w) :
    Calls Tryd.prog 41 #[.slice a n cap] w fun e w' => ∃ g1 g2, e = .returned (.tuple #[.slice (some ⟨g1, 0, none⟩) (h + 1) (h + 1), .slice (some ⟨g2, 0, none⟩) (h + 1) (h + 1), .int .i64 (movS h xs)]) ∧
      Cells w' g1 (ints (downL (movS h xs) (partsL cosC h xs))) ∧ Cells w' g2 (ints (downL (movS h xs) (partsL sinC h xs))) ∧ Below w.heap.size w w' := by
  obtain ⟨hp0, hp1⟩ := mayN_pos hm
  have HL := hide hl
  have HN := hide hn
  have HS := hide hs
  have HH := hide hh
  have HM := hide hm
  have HQ := hide hq
  have hn0 : ((n : Int) == 0) = false := by simp; omega
  have hhalf : (n : Int) / 2 = (h : Int) := by omega
  have hhn : h + 1 ≤ n := by omega
  have hn64 : n ≤ 64 := by omega
  clear hl hn hs hh hm hq
  go_enter Tryd.func41, Tryd.ntmps41
  go_wp2_with fail
  refine (spins_yes a cap n h xs _ ((unhide HL).below (alloc_below _ _)) (unhide HS) (unhide HN) (unhide HH) (unhide HM)).mono ?_
  rintro e w1 ⟨p, rfl, hr, hb⟩
  obtain ⟨b, rfl, hra⟩ := hr.rat
  have HR := hide hra
  have HSH := hide (show w1.heap[w.heap.size]? = some (.cells #[.int .i64 0] 3 (0, 0)) by rw [hb.block _ (by simp)]; exact new_one _ _ _)
  have HB1 := hide ((alloc_below w (.cells #[.int .i64 0] 3)).trans (hb.mono (by simp)))
  clear hr hb hra
  obtain ⟨m, hm⟩ : ∃ m, h + 1 = m := ⟨_, rfl⟩
  have hmi : (h : Int) + 1 = (m : Int) := by omega
  have HMM := hide hm
  have hm64 : m ≤ 64 := by omega
  have hmn : m ≤ n := by omega
  have HF := hide (show ∀ j, j < m → (spinS h (j : Int) xs).length = h ∧ Small (spinS h (j : Int) xs) from fun j _ => ⟨spinS_len _ _ _, spinS_small _ _ _⟩)
  rw [hm] at hhn
  go_wp2_with fail
  try rw [hm]
  refine (each_real b m h n (fun j => spinS h (j : Int) xs) _ ((unhide HR).less hmn) ((unhide HQ).below (unhide HB1)) (unhide HF) (by omega) (by omega)).mono ?_
  rintro e w2 ⟨g1, rfl, hg1, hc1, hb2⟩
  have HB2 := hide ((unhide HB1).trans (hb2.mono (unhide HB1).size))
  have HR2 := hide ((unhide HR).below hb2)
  have HC1 := hide hc1
  have HSH2 := hide (show w2.heap[w.heap.size]? = some (.cells #[.int .i64 0] 3 (0, 0)) by rw [hb2.block _ (Array.getElem?_eq_some_iff.1 (unhide HSH)).1]; exact unhide HSH)
  clear hg1 hc1 hb2 HB1 HR HSH
  go_wp2_with fail
  refine (each_imag b m h n (fun j => spinS h (j : Int) xs) _ ((unhide HR2).less hmn) ((unhide HQ).below (unhide HB2)) (unhide HF) (by omega) (by omega)).mono ?_
  rintro e w3 ⟨g2, rfl, hg2, hc2, hb3⟩
  have HB3 := hide ((unhide HB2).trans (hb3.mono (unhide HB2).size))
  have HC2 := hide hc2
  have HC1' := hide ((unhide HC1).below hb3)
  have HSH3 := hide (show w3.heap[w.heap.size]? = some (.cells #[.int .i64 0] 3 (0, 0)) by rw [hb3.block _ (Array.getElem?_eq_some_iff.1 (unhide HSH2)).1]; exact unhide HSH2)
  clear hg2 hc2 hb3 HB2 HR2 HSH2 HC1
  obtain ⟨re, hre⟩ : ∃ re, partsL cosC h xs = re := ⟨_, rfl⟩
  obtain ⟨im, him⟩ : ∃ im, partsL sinC h xs = im := ⟨_, rfl⟩
  have hre2 : (mkL m fun j => partI cosC (spinS h (j : Int) xs)) = re := by rw [← hre, ← hm]; rfl
  have him2 : (mkL m fun j => partI sinC (spinS h (j : Int) xs)) = im := by rw [← him, ← hm]; rfl
  rw [hre2] at HC1'
  rw [him2] at HC2
  have HRL := hide (show re.length = m by rw [← hre, parts_len, hm])
  have HIL := hide (show im.length = m by rw [← him, parts_len, hm])
  have HRS := hide (show Small re by rw [← hre]; exact parts_small _ _ _)
  have HIS := hide (show Small im by rw [← him]; exact parts_small _ _ _)
  have HMV := hide (mov_max h xs)
  rw [hre, him] at HMV
  have HRE := hide hre
  have HIM := hide him
  clear hre him hre2 him2 hm
  go_wp2_with fail
  refine (norm_any _ m re m (unhide HRL) _ (unhide HC1').lies (unhide HRS) (by omega)).mono ?_
  rintro e w4 ⟨rfl, rfl⟩
  go_wp2_with fail
  refine (norm_any _ m im m (unhide HIL) _ (unhide HC2).lies (unhide HIS) (by omega)).mono ?_
  rintro e w5 ⟨rfl, rfl⟩
  obtain ⟨r0, r1⟩ := norm_bd re (unhide HRS)
  obtain ⟨i0, i1⟩ := norm_bd im (unhide HIS)
  generalize normI re = nr at HMV r0 r1 ⊢
  generalize normI im = ni at HMV i0 i1 ⊢
  obtain ⟨mx, hmx⟩ : ∃ mx, (if nr < ni then ni else nr) = mx := ⟨_, rfl⟩
  obtain ⟨my, hmy⟩ : ∃ my, (if mx < 15 then 15 else mx) = my := ⟨_, rfl⟩
  have hmyb : 15 ≤ my ∧ my ≤ 64 := by
    rw [← hmy, ← hmx]
    repeat' split
    all_goals omega
  obtain ⟨my0, my1⟩ := hmyb
  obtain ⟨s, hs⟩ : ∃ s, movS h xs = s := ⟨_, rfl⟩
  have hms : my - 15 = s := by
    rw [← hs, unhide HMV, ← hmy, ← hmx]
    repeat' split
    all_goals omega
  have HSE := hide hs
  have hs0 : 0 ≤ s := by omega
  have hs1 : s ≤ 49 := by omega
  clear HMV hs
  obtain ⟨bs, hbs⟩ : ∃ b, w.heap.size = b := ⟨_, rfl⟩
  have HBS := hide hbs
  rw [hbs] at HSH3
  rw [hbs]
  have hsc : Cells w5 bs [.int .i64 0] := ⟨3, unhide HSH3⟩
  have hcell := hsc.cell 0 _ rfl
  have hfree := hsc.free 0
  have HB6 := hide ((unhide HB3).setCell (p := ⟨bs, 0, none⟩) (by show w.heap.size ≤ bs; omega) (.int .i64 s))
  have HSH6 := hide (show (w5.setCell ⟨bs, 0, none⟩ (.int .i64 s)).heap[bs]? = some (.cells #[.int .i64 s] 3 (0, 0)) by simp [World.setCell, Array.getElem?_modify, unhide HSH3])
  clear hsc
  go_wp2_with fail
  obtain ⟨w6, hw6⟩ : ∃ w6, w5.setCell ⟨bs, 0, none⟩ (.int .i64 s) = w6 := ⟨_, rfl⟩
  have hsc : Cells w5 bs [.int .i64 0] := ⟨3, unhide HSH3⟩
  have ho : Only bs w5 w6 := by rw [← hw6]; exact (Only.refl bs w5).setCell rfl _
  have hne1 : g1 ≠ bs := by
    rintro rfl
    have := congrArg List.length ((unhide HC1').inj hsc)
    have hl := unhide HRL
    simp [ints] at this
    omega
  have hne2 : g2 ≠ bs := by
    rintro rfl
    have := congrArg List.length ((unhide HC2).inj hsc)
    have hl := unhide HIL
    simp [ints] at this
    omega
  have C1 := hide ((unhide HC1').only ho hne1)
  have C2 := hide ((unhide HC2).only ho hne2)
  rw [hw6] at HB6 HSH6 ⊢
  have cs := cell_of_one (unhide HSH6)
  have hbw : bs < w6.heap.size := lt_of_cell cs
  have hbd : Below w6.heap.size w6 w6.drew := ⟨rfl, rfl, rfl, Nat.le_refl _, fun _ _ => rfl⟩
  clear hcell hfree hsc ho hw6 hne1 hne2 HC1' HC2 HSH3 HB3 hbs
  have keep : ∀ {w' : World}, Below w6.heap.size w6 w' → w'.cell? ⟨bs, 0, none⟩ = some (.int .i64 s) ∧ w'.frozen? ⟨bs, 0, none⟩ = false ∧ w'.heap[bs]? = some (.cells #[.int .i64 s] 3 (0, 0)) := fun hb => by
    have H := (hb.block _ hbw).trans (unhide HSH6)
    exact ⟨cell_of_one H, Cells.free (l := [.int .i64 s]) ⟨3, H⟩ 0, H⟩
  have keepset : ∀ (w' : World), Below w6.heap.size w6 w' → (w'.setCell ⟨bs, 0, none⟩ (.int .i64 s)).cell? ⟨bs, 0, none⟩ = some (.int .i64 s) ∧ (w'.setCell ⟨bs, 0, none⟩ (.int .i64 s)).frozen? ⟨bs, 0, none⟩ = false ∧ (w'.setCell ⟨bs, 0, none⟩ (.int .i64 s)).heap[bs]? = some (.cells #[.int .i64 s] 3 (0, 0)) := by
    intro w' hb
    have H := (hb.block _ hbw).trans (unhide HSH6)
    have H2 : (w'.setCell ⟨bs, 0, none⟩ (.int .i64 s)).heap[bs]? = some (.cells #[.int .i64 s] 3 (0, 0)) := by simp [World.setCell, Array.getElem?_modify, H]
    exact ⟨cell_of_one H2, Cells.free (l := [.int .i64 s]) ⟨3, H2⟩ 0, H2⟩
  have HD6 := hide (show w6.drew.heap[bs]? = some (.cells #[.int .i64 s] 3 (0, 0)) from unhide HSH6)
  go_region_held3 (fun w' => w'.cell? ⟨bs, 0, none⟩ = some (.int .i64 s) ∧ w'.frozen? ⟨bs, 0, none⟩ = false ∧ w'.heap[bs]? = some (.cells #[.int .i64 s] 3 (0, 0))) (first | exact keepset _ hb8' | exact keep hb8' | exact keep hb7' | exact keep hbd | exact keep (Below.refl _ _) | assumption)
    (first
      | (go_at_call 58; (with_reducible refine (each_down bs s (some ⟨g2, 0, none⟩) m m im w7 ((unhide C2).lies.below hb7') (unhide HIS) (unhide HIL) ((hb7'.block _ hbw).trans (unhide HSH6)) (by omega)).mono ?_); rintro t w8 ⟨g8, rfl, hg8, hc8, hb8⟩; have hb8' := below_trans hb7' hb8; have hc7' := hc7.below hb8)
      | (go_at_call 58; (with_reducible refine (each_down bs s (some ⟨g1, 0, none⟩) m m re w6.drew ((unhide C1).lies.below hbd) (unhide HRS) (unhide HRL) (unhide HD6) (by omega)).mono ?_); rintro t w7 ⟨g7, rfl, hg7, hc7, hb7⟩; have hb7' := spin_undrew hb7))
  obtain ⟨w9, hw9⟩ : ∃ w9, w8.setCell ⟨bs, 0, none⟩ (.int .i64 s) = w9 := ⟨_, rfl⟩
  have c9 : w9.cell? ⟨bs, 0, none⟩ = some (.int .i64 s) := by rw [← hw9]; exact (keepset _ hb8').1
  have HB9 := hide (show Below w.heap.size w w9 by rw [← hw9]; exact ((unhide HB6).trans (hb8'.mono (unhide HB6).size)).setCell (by show w.heap.size ≤ bs; rw [unhide HBS]; exact Nat.le_refl _) _)
  have hne7 : g7 ≠ bs := by intro e; subst e; simp at hg7; omega
  have hne8 : g8 ≠ bs := by intro e; subst e; have := hb7'.size; omega
  have ho : Only bs w8 w9 := by rw [← hw9]; exact (Only.refl bs w8).setCell rfl _
  have C7 := hide (hc7'.only ho hne7)
  have C8 := hide (hc8.only ho hne8)
  rw [hw9]
  clear hw9 ho hne7 hne8 keepset keep hc7' hc8 hb8' hb8 hg8 hc7 hb7 hb7' hg7 cs hbw hbd HD6
  go_wp2
  (try simp only [Exit.inBlock, Exit.then])
  refine bodyPost_ret (v := .tuple #[.slice (some ⟨g7, 0, none⟩) m m, .slice (some ⟨g8, 0, none⟩) m m, .int .i64 s]) (by simp [results, Tryd.results41, go_sem, c9]) rfl ?_
  refine ⟨g7, g8, ?_, ?_, ?_, unhide HB9⟩
  · rw [unhide HMM, unhide HSE]
  · rw [unhide HSE, unhide HRE]; exact unhide C7
  · rw [unhide HSE, unhide HIM]; exact unhide C8

/-- What a call told: a row in a block that was not there. -/
def ToldN (xs : List Int) (w : World) (e : Ending) (w' : World) : Prop := ∃ a l c, e = .returned (.slice a l c) ∧ xs.length = l ∧ Lies w' a xs ∧ Below w.heap.size w w' ∧ ∀ p, a = some p → w.heap.size ≤ p.block

theorem ToldN.told {xs : List Int} {w w' : World} {e : Ending} (h : ToldN xs w e w') : Told xs w e w' := by
  obtain ⟨a, l, c, h1, h2, h3, h4, _⟩ := h
  exact ⟨a, l, c, h1, h2, h3, h4⟩

/-- A call of a Go function, as a step of a region that draws: by its contract. -/
theorem step_call {P : Program} {ops : Array Oper} {o : Oper} {a : Act} {w : World} {K : Act → World → Prop} {Q : Exit → Act → World → Prop} {E : Prop} (f : FuncId) (args : Array Value)
    (hg : o.guard = none) (hx : (execOp a.eval o).run P w = .ok (.enter f args) w) (h : Calls P f args w fun e w'' => ∃ v, e = .returned v ∧ K (a.put o.dst v) w'') :
    if Region.wanted o (yielded ops a.tmps) = true then Oper.wp P o a w K Q else E := by
  rw [if_pos (by simp [Region.wanted, hg])]
  unfold Oper.wp
  rw [hx]
  show Calls P f args w _
  refine Calls.mono h ?_
  rintro e w'' ⟨v, rfl, hk⟩
  exact hk
end Go.Proofs.YtbkdgpeooeokmaaDoor
