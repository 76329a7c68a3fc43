/- Contracts of the layers below over this seat, and the mathematics of fronts. Family M. -/
import Derived.Test.YtbkdgpeooeokmaaDoorBase0
import Derived.WalkKit
import Derived.WalkSpells
import Derived.WalkLawsBesides
import Derived.Deep.RegionWith
import Derived.Laws.AppendOwnNone
import Derived.Deep.RegionHeld3
import Derived.Deep.AppendLies
import Derived.Lib.BitFns
import Derived.Lib.Small
import Derived.Lib.Walk
import Derived.Laws.IdiomStrings
import Derived.Orders
import Derived.Deep.LoopGhost
import Derived.Laws.CopyOwn
import Derived.Deep.OwnRows
import Derived.Deep.QuietTactic
import Derived.BigQuiet
import Derived.ProofKit
import Derived.OpenShut
import Derived.Deep.Slices
import Derived.Deep.Strs
import Derived.BigRegion
import Derived.Laws.EntriesVeiled
import Derived.Deep.RegionLaw
namespace Go.Proofs.YtbkdgpeooeokmaaDoor
open Go.RowKit
set_option linter.unusedVariables false

def highI (b : Int) : Int := if b < 0 ∨ 64 < b then 0 else logI (64 + 8 * b) - 1536

def hiN (b : Nat) : Int := highI (b : Int)

theorem hi_bds : ∀ b, b ≤ 64 → 0 ≤ hiN b ∧ hiN b ≤ 1000 := by decide +kernel

theorem high_bd (b : Int) : 0 ≤ highI b ∧ highI b ≤ 1000 := by
  by_cases c : b < 0 ∨ 64 < b
  · unfold highI; rw [if_pos c]; omega
  · have := hi_bds b.toNat (by omega)
    unfold hiN at this
    rwa [Int.toNat_of_nonneg (by omega)] at this

/-- The first one from b on, of f at most, that is so. -/
def firstN (P : Nat → Bool) : Nat → Nat → Nat
  | 0, b => b
  | f + 1, b => if P b then b else firstN P f (b + 1)

theorem first_spec (P : Nat → Bool) : ∀ f b, P (b + f) = true → b ≤ firstN P f b ∧ firstN P f b ≤ b + f ∧ P (firstN P f b) = true ∧ ∀ c, b ≤ c → c < firstN P f b → P c = false
  | 0, b, h => ⟨Nat.le_refl _, Nat.le_refl _, h, fun c h1 h2 => by show P c = false; unfold firstN at h2; omega⟩
  | f + 1, b, h => by
    unfold firstN
    by_cases c : P b = true
    · rw [if_pos c]; exact ⟨Nat.le_refl _, by omega, c, fun c h1 h2 => by omega⟩
    · rw [if_neg c]
      obtain ⟨h1, h2, h3, h4⟩ := first_spec P f (b + 1) (by rw [show b + 1 + f = b + (f + 1) by omega]; exact h)
      refine ⟨by omega, by omega, h3, fun d hd1 hd2 => ?_⟩
      by_cases e : d = b
      · subst e; simpa using c
      · exact h4 d (by omega) hd2

def edgeN (n M m : Nat) : Nat := firstN (fun b => decide ((m : Int) * hiN (n - 1) ≤ hiN b * ((M : Int) + 1))) (n - 1) 0

theorem edge_spec (n M m : Nat) (h2 : 2 ≤ n) (h65 : n ≤ 65) (hm : m ≤ M + 1) :
    edgeN n M m ≤ n - 1 ∧ (m : Int) * hiN (n - 1) ≤ hiN (edgeN n M m) * ((M : Int) + 1) ∧ ∀ b, b < edgeN n M m → hiN b * ((M : Int) + 1) < (m : Int) * hiN (n - 1) := by
  have h0 := (hi_bds (n - 1) (by omega)).1
  have htop : (m : Int) * hiN (n - 1) ≤ hiN (n - 1) * ((M : Int) + 1) := by
    rw [Int.mul_comm (hiN (n - 1))]; exact Int.mul_le_mul_of_nonneg_right (by omega) h0
  obtain ⟨_, h4, h5, h6⟩ := first_spec (fun b => decide ((m : Int) * hiN (n - 1) ≤ hiN b * ((M : Int) + 1))) (n - 1) 0 (by simpa using htop)
  refine ⟨by unfold edgeN; omega, by simpa [edgeN] using h5, fun b hb => ?_⟩
  have := h6 b (by omega) hb
  simp at this
  omega

theorem edge_mono (n M m k : Nat) (h2 : 2 ≤ n) (h65 : n ≤ 65) (hm : m ≤ k) (hk : k ≤ M + 1) : edgeN n M m ≤ edgeN n M k := by
  have h0 := (hi_bds (n - 1) (by omega)).1
  obtain ⟨_, _, h5⟩ := edge_spec n M m h2 h65 (by omega)
  obtain ⟨_, h6, _⟩ := edge_spec n M k h2 h65 hk
  have h7 : (m : Int) * hiN (n - 1) ≤ (k : Int) * hiN (n - 1) := Int.mul_le_mul_of_nonneg_right (by omega) h0
  have : ¬ edgeN n M k < edgeN n M m := fun c => by have := h5 _ c; omega
  omega

def edgesL (n M : Nat) : List Int := mkL (M + 2) fun m => (edgeN n M m : Int)

def near30 (x : Int) : Prop := -1073741824 ≤ x ∧ x ≤ 1073741824
instance (x : Int) : Decidable (near30 x) := by unfold near30; infer_instance

def weightI (b low mid top : Int) : Int :=
  if near30 b ∧ near30 low ∧ near30 mid ∧ near30 top then
    if low ≤ b ∧ b < mid then 256 * (b - low) / (mid - low) else if mid ≤ b ∧ b < top then 256 * (top - b) / (top - mid) else 0
  else 0

def bandS (power : List Int) (e0 e1 e2 : Int) (n : Nat) : Int := sumF (fun b => power.getD b 0 * weightI (b : Int) e0 e1 e2) n

def bandI (power : List Int) (e0 e1 e2 : Int) : Int := wrap64 (bandS power e0 e1 e2 power.length) / 256

def bandsL (power edges : List Int) : List Int := mkL (edges.length - 2) fun m => bandI power (edges.getD m 0) (edges.getD (m + 1) 0) (edges.getD (m + 2) 0)

theorem bands_len (power edges : List Int) : (bandsL power edges).length = edges.length - 2 := mkL_len _ _

set_option maxHeartbeats 1000000 in
theorem parts_quiet (x n : Int) (w : World) (hx : In64 x) (hn1 : 1 ≤ n) (hn2 : n ≤ 9223372036854775807) :
    Calls Tryd.prog 51 #[.int .i64 x, .int .i64 n] w fun e w' => e = .returned (.tuple #[.int .i64 (x / n), .int .i64 (x % n)]) ∧ ∃ d, w' = w.drewN d := by
  have n0 : (n == 0) = false := by simp; omega
  have n0' : ¬ n = 0 := by omega
  have hmr1 := Int.tmod_lt_of_pos x (b := n) (by omega)
  have hmr2 := Int.lt_tmod_of_pos x (b := n) (by omega)
  have Hq := hide (quo_in x n hn1 hx)
  obtain ⟨h1, h2⟩ := hx
  by_cases hr : x.tmod n < 0
  · have T := tq_neg x n hn1 hr
    have H1 := hide T.1
    have H2 := hide T.2
    have hb := (tq_bd x n hn1 hr ⟨h1, h2⟩).1
    have hb' := (tq_bd x n hn1 hr ⟨h1, h2⟩).2
    clear T
    have HV := hide (show x.tdiv n - 1 = x / n ∧ x.tmod n + n = x % n by rw [unhide H1, unhide H2]; omega)
    go_enter Tryd.func51, Tryd.ntmps51
    go_wp2
    go_region
    go_wp2
    go_ret2
    exact ⟨ret_ii ⟨(unhide HV).1, (unhide HV).2⟩, 1, rfl⟩
  · have T := tq_pos x n hn1 hr
    have hb := quo_in x n hn1 ⟨h1, h2⟩
    rw [← T.1] at hb
    obtain ⟨hb1, hb2⟩ := hb
    have HV := hide (show x.tdiv n = x / n ∧ x.tmod n = x % n from T)
    clear T
    go_enter Tryd.func51, Tryd.ntmps51
    go_wp2
    go_region
    go_wp2
    go_ret2
    exact ⟨ret_ii ⟨(unhide HV).1, (unhide HV).2⟩, 1, rfl⟩

theorem whole_quiet (x n : Int) (w : World) (hx : In64 x) (h1 : 1 ≤ n) (h2 : n ≤ 9223372036854775807) :
    Calls Tryd.prog 64 #[.int .i64 x, .int .i64 n] w fun e w' => e = .returned (.int .i64 (x / n)) ∧ ∃ d, w' = w.drewN d := by
  have HX := hide hx
  clear hx
  go_enter Tryd.func64, Tryd.ntmps64
  go_wp2_with fail
  refine (parts_quiet x n w (unhide HX) h1 h2).mono ?_
  rintro e w1 ⟨rfl, d, rfl⟩
  go_wp2_with fail
  go_ret
  exact ⟨rfl, d, rfl⟩

theorem high_any (b : Int) (w : World) (hb : In64 b) :
    Calls Tryd.prog 60 #[.int .i64 b] w fun e w' => e = .returned (.int .i64 (highI b)) ∧ w' = w := by
  obtain ⟨h1, h2⟩ := hb
  by_cases c : b < 0 ∨ 64 < b
  · have HV := hide (show highI b = 0 by unfold highI; rw [if_pos c])
    go_enter Tryd.func60, Tryd.ntmps60
    go_wp2_with fail
    all_goals first | (exfalso; omega) | skip
    all_goals (go_ret; refine ⟨?_, rfl⟩; rw [unhide HV]; rfl)
  · have HV := hide (show highI b = logI (64 + 8 * b) - 1536 by unfold highI; rw [if_neg c])
    have hbd := high_bd b
    rw [unhide HV] at hbd
    have HU := hide (show U64 (64 + 8 * b) from ⟨by omega, by omega⟩)
    go_enter Tryd.func60, Tryd.ntmps60
    go_wp2_with fail
    all_goals first | (exfalso; omega) | skip
    refine (log_any (64 + 8 * b) w (unhide HU)).mono ?_
    rintro e w1 ⟨rfl, rfl⟩
    go_wp2_with fail
    go_ret
    exact ⟨by rw [unhide HV]; rfl, rfl⟩

/-- The least and the greatest of four. -/
theorem min4 (a b c d : Int) (ts : Array TypeId) (t : TypeId) : ∃ m, (m ≤ a ∧ m ≤ b ∧ m ≤ c ∧ m ≤ d ∧ (m = a ∨ m = b ∨ m = c ∨ m = d)) ∧ ∀ w, (Builtin.min_ ts t #[.int .i64 a, .int .i64 b, .int .i64 c, .int .i64 d]).run Tryd.prog w = .ok (.int .i64 m) w := by
  refine ⟨if d < (if c < (if b < a then b else a) then c else (if b < a then b else a)) then d else (if c < (if b < a then b else a) then c else (if b < a then b else a)), ?_, fun w => by simp [Builtin.min_, Builtin.min2]⟩
  repeat' split
  all_goals omega

theorem max4 (a b c d : Int) (ts : Array TypeId) (t : TypeId) : ∃ m, (a ≤ m ∧ b ≤ m ∧ c ≤ m ∧ d ≤ m ∧ (m = a ∨ m = b ∨ m = c ∨ m = d)) ∧ ∀ w, (Builtin.max_ ts t #[.int .i64 a, .int .i64 b, .int .i64 c, .int .i64 d]).run Tryd.prog w = .ok (.int .i64 m) w := by
  refine ⟨if (if (if a < b then b else a) < c then c else (if a < b then b else a)) < d then d else (if (if a < b then b else a) < c then c else (if a < b then b else a)), ?_, fun w => by simp [Builtin.max_, Builtin.max2]⟩
  repeat' split
  all_goals omega

theorem weight_quiet (b low mid top : Int) (w : World) (h0 : In64 b) (h1 : In64 low) (h2 : In64 mid) (h3 : In64 top) :
    Calls Tryd.prog 63 #[.int .i64 b, .int .i64 low, .int .i64 mid, .int .i64 top] w fun e w' => e = .returned (.int .i64 (weightI b low mid top)) ∧ ∃ d, w' = w.drewN d := by
  obtain ⟨m, ⟨hm1, hm2, hm3, hm4, hm5⟩, hmin⟩ := min4 b low mid top #[3, 3, 3, 3] 3
  obtain ⟨M, ⟨hM1, hM2, hM3, hM4, hM5⟩, hmax⟩ := max4 b low mid top #[3, 3, 3, 3] 3
  by_cases hn : near30 b ∧ near30 low ∧ near30 mid ∧ near30 top
  · by_cases c1 : low ≤ b ∧ b < mid
    · have HV := hide (show weightI b low mid top = 256 * (b - low) / (mid - low) by unfold weightI; rw [if_pos hn, if_pos c1])
      obtain ⟨n0, n1, n2, n3⟩ := hn
      unfold near30 at n0 n1 n2 n3
      have c3 := c1.1
      have c4 := c1.2
      have k1 : ¬ m < -1073741824 := by omega
      have k2 : ¬ 1073741824 < M := by omega
      go_enter Tryd.func63, Tryd.ntmps63
      go_wp2_with fail
      all_goals first | (exfalso; omega) | skip
      refine (whole_quiet (256 * (b - low)) (mid - low) w ⟨by omega, by omega⟩ (by omega) (by omega)).mono ?_
      rintro e w1 ⟨rfl, d, rfl⟩
      go_wp2_with fail
      go_ret
      exact ⟨by rw [unhide HV]; rfl, d, rfl⟩
    · by_cases c2 : mid ≤ b ∧ b < top
      · have HV := hide (show weightI b low mid top = 256 * (top - b) / (top - mid) by unfold weightI; rw [if_pos hn, if_neg c1, if_pos c2])
        obtain ⟨n0, n1, n2, n3⟩ := hn
        unfold near30 at n0 n1 n2 n3
        have c3 := c2.1
        have c4 := c2.2
        have k1 : ¬ m < -1073741824 := by omega
        have k2 : ¬ 1073741824 < M := by omega
        go_enter Tryd.func63, Tryd.ntmps63
        go_wp2_with fail
        all_goals first | (exfalso; omega) | skip
        all_goals refine (whole_quiet (256 * (top - b)) (top - mid) w ⟨by omega, by omega⟩ (by omega) (by omega)).mono ?_
        all_goals rintro e w1 ⟨rfl, d, rfl⟩
        all_goals go_wp2_with fail
        all_goals go_ret
        all_goals exact ⟨by rw [unhide HV]; rfl, d, rfl⟩
      · have HV := hide (show weightI b low mid top = 0 by unfold weightI; rw [if_pos hn, if_neg c1, if_neg c2])
        obtain ⟨n0, n1, n2, n3⟩ := hn
        unfold near30 at n0 n1 n2 n3
        have k1 : ¬ m < -1073741824 := by omega
        have k2 : ¬ 1073741824 < M := by omega
        go_enter Tryd.func63, Tryd.ntmps63
        go_wp2_with fail
        all_goals first | (exfalso; omega) | skip
        all_goals go_ret
        all_goals exact ⟨by rw [unhide HV]; rfl, 0, rfl⟩
  · have HV := hide (show weightI b low mid top = 0 by unfold weightI; rw [if_neg hn])
    unfold near30 at hn
    have k : m < -1073741824 ∨ 1073741824 < M := by omega
    clear hn
    go_enter Tryd.func63, Tryd.ntmps63
    go_wp2_with fail
    all_goals first | (exfalso; omega) | skip
    all_goals go_ret
    all_goals exact ⟨by rw [unhide HV]; rfl, 0, rfl⟩

def edgesI (bins bands : Int) : List Int := if 2 ≤ bins ∧ bins ≤ 65 ∧ 1 ≤ bands ∧ bands ≤ 16 then edgesL bins.toNat bands.toNat else []

theorem edgesI_yes (n M : Nat) (h1 : 2 ≤ n) (h2 : n ≤ 65) (h3 : 1 ≤ M) (h4 : M ≤ 16) : edgesI (n : Int) (M : Int) = edgesL n M := by
  unfold edgesI; rw [if_pos (by omega)]; simp

theorem edgesI_no (a b : Int) (h : ¬ (2 ≤ a ∧ a ≤ 65 ∧ 1 ≤ b ∧ b ≤ 16)) : edgesI a b = [] := by unfold edgesI; rw [if_neg h]

/-- The row with its first k edges. -/
def edgesTo (n M k : Nat) : List Int := mkL (M + 2) fun j => if j < k then (edgeN n M j : Int) else 0

theorem edgesTo_zero (n M : Nat) : List.replicate (M + 2) (0 : Int) = edgesTo n M 0 := by
  symm; exact mkL_eq _ _ _ (by simp) (fun i hi => by simp [List.getD_eq_getElem?_getD, hi])

theorem edgesTo_all (n M : Nat) : edgesTo n M (M + 2) = edgesL n M := mkL_congr _ _ _ fun i hi => by rw [if_pos hi]

theorem edgesTo_len (n M k : Nat) : (edgesTo n M k).length = M + 2 := mkL_len _ _

theorem edgesTo_step (n M k : Nat) (h : k < M + 2) : (edgesTo n M k).set k (edgeN n M k : Int) = edgesTo n M (k + 1) := by
  symm
  refine mkL_eq _ _ _ (by rw [List.length_set, edgesTo_len]) fun i hi => ?_
  have hf : (if i < k + 1 then (edgeN n M i : Int) else 0) = if i = k then (edgeN n M k : Int) else if i < k then (edgeN n M i : Int) else 0 := by
    by_cases e : i = k
    · subst e; simp
    · rw [if_neg e]
      by_cases c : i < k
      · rw [if_pos c, if_pos (by omega)]
      · rw [if_neg c, if_neg (by omega)]
  rw [hf, getD_set, edgesTo_len]
  by_cases e : i = k
  · subst e; rw [if_pos rfl, if_pos ⟨rfl, h⟩]
  · rw [if_neg e, if_neg (fun c : k = i ∧ _ => e c.1.symm), edgesTo, mkL_at _ _ _ hi]

theorem prod_hi (x m : Int) (h0 : 0 ≤ x) (h1 : x ≤ 1000) (h2 : 0 ≤ m) (h3 : m ≤ 17) : 0 ≤ x * m ∧ x * m ≤ 17000 := by
  refine ⟨Int.mul_nonneg h0 h2, ?_⟩
  have := Int.mul_le_mul h1 h3 h2 (by omega : (0 : Int) ≤ 1000)
  omega

set_option maxRecDepth 100000 in
theorem edges_yes (n M : Nat) (w : World) (h1 : 2 ≤ n) (h2 : n ≤ 65) (h3 : 1 ≤ M) (h4 : M ≤ 16) :
    Calls Tryd.prog 43 #[.int .i64 (n : Int), .int .i64 (M : Int)] w (Told (edgesL n M) w) := by
  obtain ⟨i0, hi, hz0, hz1, hz2⟩ := info_parts Tryd.info3
  obtain ⟨p, hp⟩ : ∃ p, n = p + 1 := ⟨n - 1, by omega⟩
  obtain ⟨D, hD⟩ : ∃ D, D = M + 2 := ⟨_, rfl⟩
  obtain ⟨w1, hrun, hown, hgr⟩ := run_makeSlice_full (P := Tryd.prog) w.drew w.heap.size 24 3 i0 (.int .i64 0) 1 Tryd.underlying24 hi hz0 hz1 .i64 .i64 D (by omega) (by rw [hz2]; omega) (by unfold maxLen; omega) (Nat.le_refl _)
  have hown : w1.ownsRow w.heap.size 3 1 (.slice (some ⟨w.heap.size, 0, none⟩) D D) D (ints (List.replicate D 0)) := by
    rw [← ints_zero]; have h := hown; rw [Nat.mul_one] at h; exact h
  have HO := hide (own_cells hown)
  have HB := hide (((Below.refl w.heap.size w).drew).grown hgr (Nat.le_refl _) (fun _ h => by cases h))
  have htb := hi_bds p (by omega)
  obtain ⟨T, hT⟩ : ∃ T, hiN p = T := ⟨_, rfl⟩
  rw [hT] at htb
  have HT := hide hT
  have g1 : ¬ (n : Int) < 2 := by omega
  have g2 : ¬ (65 : Int) < n := by omega
  have g3 : ¬ (M : Int) < 1 := by omega
  have g4 : ¬ (16 : Int) < M := by omega
  have e1 : IntKind.i64.wrap ((M : Int) + 2) = (D : Int) := by rw [IntKind.wrap_i64]; omega
  have hp0 : (p : Int) ≤ 64 := by omega
  have HH : Hid (∀ w0, Calls Tryd.prog 60 #[.int .i64 (p : Int)] w0 fun e w' => e = .returned (.int .i64 T) ∧ w0 = w') := fun w0 => (high_any (p : Int) w0 (by unfold In64; omega)).mono fun e w' h => ⟨by rw [h.1, ← unhide HT]; rfl, h.2.symm⟩
  have e2 : IntKind.i64.wrap ((n : Int) - 1) = (p : Int) := by rw [IntKind.wrap_i64]; omega
  have HD := hide hD
  have HP := hide hp
  clear hown hgr hT hp hD
  go_enter Tryd.func43, Tryd.ntmps43
  go_wp2_with fail
  go_region_with (first | (go_at_call 60; refine (unhide HH _).mono ?_; rintro e' w' ⟨rfl, rfl⟩))
  all_goals clear hrun hown e1 e2 HH
  all_goals (
    have hz : List.replicate D (0 : Int) = edgesTo n M 0 := by rw [unhide HD]; exact edgesTo_zero n M
    rw [hz] at HO
    clear hz
    go_wp2
    go_loopw [31, 7] (fun i b wr => ∃ k e : Nat, k ≤ D ∧ i = .int .i64 (k : Int) ∧ b = .int .i64 (e : Int) ∧ (k < D → e ≤ edgeN n M k) ∧ e ≤ 64 ∧ Hid (Cells wr w.heap.size (ints (edgesTo n M k))) ∧ Hid (Below w.heap.size w wr))
      (fun i _ _ => D - (intOf i).toNat)
    case atStart => exact ⟨0, 0, by omega, rfl, rfl, fun _ => Nat.zero_le _, by omega, HO, HB⟩
    case round =>
      obtain ⟨k, e, hk, rfl, rfl, he, he64, HOr, HBr⟩ := hrel
      by_cases hlt : k < D
      · have hkM : k ≤ M + 1 := by have := unhide HD; omega
        obtain ⟨s1, s2, s3⟩ := edge_spec n M k h1 h2 hkM
        rw [show n - 1 = p by have := unhide HP; omega, unhide HT] at s2 s3
        have hee := he hlt
        have hen : edgeN n M k ≤ 64 := by omega
        obtain ⟨E, hE⟩ : ∃ E, edgeN n M k = E := ⟨_, rfl⟩
        rw [hE] at s1 s2 s3 hee hen
        have HE := hide hE
        have HS2 := hide s2
        have HS3 := hide s3
        have hkT := prod_hi T (k : Int) htb.1 htb.2 (by omega) (by omega)
        rw [Int.mul_comm] at hkT
        have hkD : (k : Int) < (D : Int) := by omega
        clear hE s2 s3 he HO HB
        go_wp2_with fail
        go_loopw [7] (fun b wr2 => ∃ e2 : Nat, b = .int .i64 (e2 : Int) ∧ e2 ≤ E ∧ wr2 = wr) (fun b _ => E - (intOf b).toNat)
        case atStart => exact ⟨e, rfl, hee, rfl⟩
        case round =>
          obtain ⟨e2, rfl, he2, rfl⟩ := hrel
          obtain ⟨x, hx⟩ : ∃ x, hiN e2 = x := ⟨_, rfl⟩
          have hxb := hi_bds e2 (by omega)
          rw [hx] at hxb
          have hxM := prod_hi x ((M : Int) + 1) hxb.1 hxb.2 (by omega) (by omega)
          have HX := hide hx
          by_cases c : e2 < E
          · have hlt2 : x * ((M : Int) + 1) < (k : Int) * T := by have := unhide HS3 e2 c; rwa [hx] at this
            clear hx
            go_wp2_with fail
            refine (high_any (e2 : Int) _ (by unfold In64; omega)).mono ?_
            rintro e' w' ⟨rfl, rfl⟩
            rw [show highI (e2 : Int) = x from unhide HX]
            go_wp2_with fail
            go_roundw
            case rel => exact ⟨e2 + 1, by go_num, by omega, trivial⟩
            case measure => simp [intOf]; omega
          · obtain rfl : e2 = E := by omega
            have hge2 : ¬ x * ((M : Int) + 1) < (k : Int) * T := by have := unhide HS2; rw [hx] at this; omega
            have hcell := (unhide HOr).cell k _ (ints_at _ k (by rw [edgesTo_len]; omega))
            have hfree := (unhide HOr).free k
            clear hx
            go_wp2_with fail
            refine (high_any (e2 : Int) _ (by unfold In64; omega)).mono ?_
            rintro e' w' ⟨rfl, rfl⟩
            rw [show highI (e2 : Int) = x from unhide HX]
            go_wp2_with fail
            go_roundw
            case rel =>
              refine ⟨k + 1, e2, by omega, by go_num, rfl, fun hk2 => ?_, hen, ?_, (unhide HBr).setCell (Nat.le_refl _) _⟩
              · have := edge_mono n M k (k + 1) h1 h2 (by omega) (by have := unhide HD; omega)
                rwa [unhide HE] at this
              · have := (unhide HOr).set k (.int .i64 (e2 : Int))
                rw [ints_set, ← unhide HE, edgesTo_step n M k (by have := unhide HD; omega)] at this
                rw [← unhide HE]
                exact this
            case measure => simp [intOf]; omega
      · obtain rfl : k = D := by omega
        have hL := (unhide HOr).lies
        rw [unhide HD, edgesTo_all] at hL
        have HL := hide hL
        clear hL HOr he
        go_wp2_with fail
        go_ret
        exact ⟨_, _, _, rfl, by rw [edgesL, mkL_len, unhide HD], unhide HL, unhide HBr⟩)

theorem edges_no (a b : Int) (w : World) (ha : In64 a) (hb : In64 b) (h : ¬ (2 ≤ a ∧ a ≤ 65 ∧ 1 ≤ b ∧ b ≤ 16)) :
    Calls Tryd.prog 43 #[.int .i64 a, .int .i64 b] w (Told [] w) := by
  have HA := hide ha
  have HB := hide hb
  clear ha hb
  go_enter Tryd.func43, Tryd.ntmps43
  go_wp2_with fail
  all_goals first | (exfalso; omega) | skip
  all_goals go_ret
  all_goals exact ⟨none, 0, 0, rfl, rfl, .inl rfl, Below.refl _ _⟩

theorem edges_any (a b : Int) (w : World) (ha : In64 a) (hb : In64 b) :
    Calls Tryd.prog 43 #[.int .i64 a, .int .i64 b] w (Told (edgesI a b) w) := by
  by_cases h : 2 ≤ a ∧ a ≤ 65 ∧ 1 ≤ b ∧ b ≤ 16
  · obtain ⟨n, rfl⟩ : ∃ n : Nat, a = (n : Int) := ⟨a.toNat, by omega⟩
    obtain ⟨M, rfl⟩ : ∃ M : Nat, b = (M : Int) := ⟨b.toNat, by omega⟩
    rw [edgesI_yes n M (by omega) (by omega) (by omega) (by omega)]
    exact edges_yes n M w (by omega) (by omega) (by omega) (by omega)
  · rw [edgesI_no a b h]
    exact edges_no a b w ha hb h

theorem sumF_stop (f : Nat → Int) (a : Nat) : ∀ c, (∀ t, a ≤ t → t < a + c → f t = 0) → sumF f (a + c) = sumF f a
  | 0, _ => rfl
  | c + 1, h => by
    show sumF f (a + c) + f (a + c) = _
    rw [sumF_stop f a c fun t h1 h2 => h t h1 (by omega), h (a + c) (by omega) (by omega)]; omega

/-- What a bin adds. -/
def adds (power : List Int) (e0 e1 e2 : Int) (b : Nat) : Int := power.getD b 0 * weightI (b : Int) e0 e1 e2

theorem adds_low (power : List Int) (e0 e1 e2 : Int) (b : Nat) (h0 : (b : Int) < e0) (h1 : (b : Int) < e1) : adds power e0 e1 e2 b = 0 := by
  unfold adds weightI
  split
  · rw [if_neg (by omega), if_neg (by omega), Int.mul_zero]
  · rw [Int.mul_zero]

theorem adds_top (power : List Int) (e0 e1 e2 : Int) (b : Nat) (h0 : e1 ≤ (b : Int)) (h1 : e2 ≤ (b : Int)) : adds power e0 e1 e2 b = 0 := by
  unfold adds weightI
  split
  · rw [if_neg (by omega), if_neg (by omega), Int.mul_zero]
  · rw [Int.mul_zero]

theorem adds_far (power : List Int) (e0 e1 e2 : Int) (b : Nat) (h : power.length ≤ b) : adds power e0 e1 e2 b = 0 := by
  unfold adds; rw [List.getD_eq_getElem?_getD, List.getElem?_eq_none h]; exact Int.zero_mul _

/-- All that is in a band is between the two ends at which the code stops. -/
theorem band_from (power : List Int) (e0 e1 e2 : Int) (lo : Nat) (h : max 0 (min e0 e1) = (lo : Int)) : sumF (adds power e0 e1 e2) lo = 0 := by
  have := sumF_stop (adds power e0 e1 e2) 0 lo fun t _ ht => adds_low power e0 e1 e2 t (by omega) (by omega)
  rw [Nat.zero_add] at this
  rw [this]; rfl

theorem band_upto (power : List Int) (e0 e1 e2 : Int) (n b : Nat) (hn : power.length = n) (h : (n : Int) ≤ (b : Int) ∨ e1 ≤ (b : Int) ∧ e2 ≤ (b : Int)) : wrap64 (sumF (adds power e0 e1 e2) b) / 256 = bandI power e0 e1 e2 := by
  unfold bandI
  congr 2
  show _ = sumF (adds power e0 e1 e2) power.length
  rw [hn]
  by_cases c : n ≤ b
  · obtain ⟨d, rfl⟩ : ∃ d, b = n + d := ⟨b - n, by omega⟩
    exact sumF_stop _ n d fun t h1 _ => adds_far power e0 e1 e2 t (by omega)
  · obtain ⟨d, rfl⟩ : ∃ d, n = b + d := ⟨n - b, by omega⟩
    exact (sumF_stop _ b d fun t h1 _ => adds_top power e0 e1 e2 t (by omega) (by omega)).symm

set_option maxRecDepth 100000 in
theorem band_quiet (pb : Nat) (a : Option Addr) (ca n : Nat) (power : List Int) (e0 e1 e2 : Int) (w : World) (hp : w.cell? ⟨pb, 0, none⟩ = some (.slice a n ca)) (hl : Lies w a power) (hs : Small power) (hn : power.length = n) (hn2 : n ≤ 9223372036854775807) (h0 : In64 e0) (h1 : In64 e1) (h2 : In64 e2) :
    Calls Tryd.prog 62 #[.int .i64 e0, .int .i64 e1, .int .i64 e2, .pointer (some ⟨pb, 0, none⟩)] w fun e w' => e = .returned (.int .i64 (bandI power e0 e1 e2)) ∧ ∃ d, w' = w.drewN d := by
  obtain ⟨lo, hlo⟩ : ∃ lo : Nat, max 0 (min e0 e1) = (lo : Int) := ⟨(max 0 (min e0 e1)).toNat, by omega⟩
  have hlo63 : (lo : Int) ≤ 9223372036854775807 := by obtain ⟨_, _⟩ := h0; obtain ⟨_, _⟩ := h1; omega
  obtain ⟨hi, hhi⟩ : ∃ hi, min (n : Int) (max e1 e2) = hi := ⟨_, rfl⟩
  have HLO := hide hlo
  have HHI := hide hhi
  have HL := hide hl
  have HS := hide hs
  have HN := hide hn
  have H0 := hide h0
  have H1 := hide h1
  have H2 := hide h2
  clear hl hs hn h0 h1 h2
  go_enter Tryd.func62, Tryd.ntmps62
  go_wp2_with fail
  go_loopw [9, 8] (fun i v wr => ∃ b : Nat, lo ≤ b ∧ i = .int .i64 (b : Int) ∧ (b : Int) ≤ 9223372036854775807 ∧ Hid (v = .int .i64 (wrap64 (sumF (adds power e0 e1 e2) b))) ∧ Hid (∃ d, wr = w.drewN d))
    (fun i _ _ => n - (intOf i).toNat)
  case atStart => exact ⟨lo, Nat.le_refl _, rfl, by omega, by show _ = _; rw [band_from power e0 e1 e2 lo (unhide HLO), show wrap64 0 = 0 from w64_in ⟨by omega, by omega⟩], ⟨0, rfl⟩⟩
  case round =>
    obtain ⟨b, hlo, rfl, hb63, HV, HD⟩ := hrel
    have hp' : wr.cell? ⟨pb, 0, none⟩ = some (.slice a n ca) := by obtain ⟨d, rfl⟩ := unhide HD; exact hp
    obtain ⟨s, hs⟩ : ∃ s, wrap64 (sumF (adds power e0 e1 e2) b) = s := ⟨_, rfl⟩
    rw [hs] at HV
    have hsb : In64 s := by rw [← hs]; exact wrap_in _
    have hv := unhide HV
    subst hv
    have HSS := hide hs
    clear HV hs
    by_cases c : (b : Int) < hi
    · have hbn : b < n := by have := unhide HHI; omega
      obtain ⟨ba, oa, rfl, hlta, hca⟩ := (unhide HL).some (by intro h; have := unhide HN; subst h; simp at this; omega)
      have cx : wr.cell? ⟨ba, oa + b, none⟩ = some (.int .i64 (power.getD b 0)) := by obtain ⟨d, rfl⟩ := unhide HD; exact hca b (by rw [unhide HN]; exact hbn)
      obtain ⟨x, hx⟩ : ∃ x, power.getD b 0 = x := ⟨_, rfl⟩
      rw [hx] at cx
      have HX := hide hx
      obtain ⟨z, hz⟩ : ∃ z, weightI (b : Int) e0 e1 e2 = z := ⟨_, rfl⟩
      have HZ := hide hz
      have HW : Hid (∀ w0, Calls Tryd.prog 63 #[.int .i64 (b : Int), .int .i64 e0, .int .i64 e1, .int .i64 e2] w0 fun e w' => e = .returned (.int .i64 z) ∧ ∃ d2, w' = w0.drewN d2) := fun w0 => by rw [← hz]; exact weight_quiet (b : Int) e0 e1 e2 _ ⟨by omega, by omega⟩ (unhide H0) (unhide H1) (unhide H2)
      have hbn' : (b : Int) < (n : Int) := by omega
      clear hx hz hca
      go_wp2_with fail
      go_quiet ((go_at_call 63; exact Calls.quiet_of (unhide HW _)))
      go_wp2
      go_roundw
      case rel =>
        refine ⟨b + 1, by omega, by go_num, by omega, ?_, ?_⟩
        · show _ = _
          rw [show sumF (adds power e0 e1 e2) (b + 1) = sumF (adds power e0 e1 e2) b + adds power e0 e1 e2 b from rfl, wrap_step _ _ s (wrap64 (x * z)) (unhide HSS) (by unfold adds; rw [unhide HX, unhide HZ])]
        · obtain ⟨d, hd⟩ := unhide HD
          exact ⟨d + nq, by rw [hd, World.drewN_drewN]⟩
      case measure => simp [intOf]; omega
    · have HE := hide (show s / 256 = bandI power e0 e1 e2 by rw [← unhide HSS]; exact band_upto power e0 e1 e2 n b (unhide HN) (by have := unhide HHI; omega))
      have HSB := hide hsb
      clear hsb
      go_wp2_with fail
      refine (whole_quiet s 256 _ (unhide HSB) (by decide) (by decide)).mono ?_
      rintro e w1 ⟨rfl, d2, rfl⟩
      rw [unhide HE]
      go_wp2_with fail
      go_ret
      refine ⟨rfl, ?_⟩
      obtain ⟨d, hd⟩ := unhide HD
      exact ⟨d + d2, by rw [hd, World.drewN_drewN]⟩

/-- The bands ahead of band k. -/
def bandsTo (power edges : List Int) (k : Nat) : List Int := mkL k fun m => bandI power (edges.getD m 0) (edges.getD (m + 1) 0) (edges.getD (m + 2) 0)

theorem bandsTo_step (power edges : List Int) (k : Nat) (e0 e1 e2 z : Int) (h0 : edges.getD k 0 = e0) (h1 : edges.getD (k + 1) 0 = e1) (h2 : edges.getD (k + 2) 0 = e2) (hz : bandI power e0 e1 e2 = z) : ints (bandsTo power edges (k + 1)) = ints (bandsTo power edges k) ++ [.int .i64 z] := by
  subst h0 h1 h2 hz; simp [ints, bandsTo, mkL, List.range_succ]

theorem bandsTo_all (power edges : List Int) (m : Nat) (h : m = edges.length - 2) : bandsTo power edges m = bandsL power edges := by subst h; rfl

theorem keep_grown2 {X w' : World} {o : Obj} {row : Option Nat} {b off : Nat} {v : Value} (hg : (X.alloc o).grownBy w' row) (hp : b < X.heap.size) (hr : ∀ j, j = b → row ≠ some j) (hc : X.cell? ⟨b, off, none⟩ = some v) : w'.cell? ⟨b, off, none⟩ = some v := by
  rw [← hc]
  apply World.cell?_of_block
  rw [hg.block b (by simp; omega) (fun e => hr b rfl e.symm)]
  exact Below.heap_alloc X o b hp

set_option maxRecDepth 100000 in
theorem bands_any (a : Option Addr) (ca n : Nat) (power : List Int) (a2 : Option Addr) (c2 m : Nat) (edges : List Int) (w : World) (hl : Lies w a power) (hs : Small power) (hn : power.length = n) (hn2 : n ≤ 9223372036854775807) (hl2 : Lies w a2 edges) (hs2 : Small edges) (hm : edges.length = m) (hm2 : m ≤ 1000000) :
    Calls Tryd.prog 45 #[.slice a n ca, .slice a2 m c2] w (Told (bandsL power edges) w) := by
  obtain ⟨i0, hi, hz0, hz1, hz2⟩ := info_parts Tryd.info3
  have HI : Hid (Tryd.prog.info? 3 = some i0 ∧ i0.zero = some (.int .i64 0) ∧ i0.size = 1 ∧ i0.bytes = 8) := ⟨hi, hz0, hz1, hz2⟩
  have HL := hide hl
  have HS := hide hs
  have HN := hide hn
  have HL2 := hide hl2
  have HS2 := hide hs2
  have HM := hide hm
  clear hl hs hn hl2 hs2 hm hi hz0 hz1 hz2
  go_enter Tryd.func45, Tryd.ntmps45
  go_wp2_with fail
  obtain ⟨w1, hw1⟩ : ∃ w1, w.alloc (.cells #[.slice a n ca] 24) = w1 := ⟨_, rfl⟩
  have hbox : w1.cell? ⟨w.heap.size, 0, none⟩ = some (.slice a n ca) := by rw [← hw1, World.cell?_alloc_at _ _ _ _ rfl]; rfl
  have hb1 : Below w.heap.size w w1 := by rw [← hw1]; exact alloc_below w _
  have hsz1 : w1.heap.size = w.heap.size + 1 := by rw [← hw1]; simp
  rw [hw1]
  have HBOX := hide hbox
  have HB1 := hide hb1
  have HSZ1 := hide hsz1
  clear hw1 hbox hb1 hsz1
  go_loopw [12, 6] (fun i v wr => ∃ k : Nat, (k = 0 ∨ k + 2 ≤ m) ∧ i = .int .i64 (k : Int) ∧ Hid (wr.ownsRow w1.heap.size 3 1 v k (ints (bandsTo power edges k))) ∧ Hid (Below w1.heap.size w1 wr))
    (fun i _ _ => m - (intOf i).toNat)
  case atStart => exact ⟨0, .inl rfl, rfl, World.ownsRow_nil _ _ _ _, Below.refl _ _⟩
  case round =>
    obtain ⟨k, hk, rfl, HOr, HBr⟩ := hrel
    by_cases hlt : k + 2 < m
    · have HBw := hide (below_trans (unhide HB1) (by have := unhide HBr; exact this))
      obtain ⟨b2, o2, rfl, hlt2, hc2⟩ := (unhide HL2).some (by intro h; have := unhide HM; subst h; simp at this; omega)
      obtain ⟨k1, hk1⟩ : ∃ k1, k + 1 = k1 := ⟨_, rfl⟩
      obtain ⟨k2, hk2⟩ : ∃ k2, k + 2 = k2 := ⟨_, rfl⟩
      obtain ⟨e0, he0⟩ : ∃ x, edges.getD k 0 = x := ⟨_, rfl⟩
      obtain ⟨e1, he1⟩ : ∃ x, edges.getD k1 0 = x := ⟨_, rfl⟩
      obtain ⟨e2, he2⟩ : ∃ x, edges.getD k2 0 = x := ⟨_, rfl⟩
      have c0 : wr.cell? ⟨b2, o2 + k, none⟩ = some (.int .i64 e0) := by rw [(unhide HBw).cell (p := ⟨b2, _, none⟩) hlt2, ← he0]; exact hc2 k (by rw [unhide HM]; omega)
      have c1 : wr.cell? ⟨b2, o2 + k1, none⟩ = some (.int .i64 e1) := by rw [(unhide HBw).cell (p := ⟨b2, _, none⟩) hlt2, ← he1]; exact hc2 k1 (by rw [unhide HM]; omega)
      have c2' : wr.cell? ⟨b2, o2 + k2, none⟩ = some (.int .i64 e2) := by rw [(unhide HBw).cell (p := ⟨b2, _, none⟩) hlt2, ← he2]; exact hc2 k2 (by rw [unhide HM]; omega)
      have hin0 : In64 e0 := by rw [← he0]; exact (unhide HS2).all k
      have hin1 : In64 e1 := by rw [← he1]; exact (unhide HS2).all k1
      have hin2 : In64 e2 := by rw [← he2]; exact (unhide HS2).all k2
      obtain ⟨z, hz⟩ : ∃ z, bandI power e0 e1 e2 = z := ⟨_, rfl⟩
      have HSU := hide (bandsTo_step power edges k e0 e1 e2 z he0 (by rw [hk1]; exact he1) (by rw [hk2]; exact he2) hz)
      have HC : Hid (∀ w0, Below wr.heap.size wr w0 → Calls Tryd.prog 62 #[.int .i64 e0, .int .i64 e1, .int .i64 e2, .pointer (some ⟨w.heap.size, 0, none⟩)] w0 fun e w' => e = .returned (.int .i64 z) ∧ ∃ d, w' = w0.drewN d) := fun w0 h0 => by
        rw [← hz]
        have hs1 := unhide HSZ1
        have hs2 := (unhide HBr).size
        exact band_quiet w.heap.size a ca n power e0 e1 e2 w0 (((h0.cell (p := ⟨w.heap.size, 0, none⟩) (by show w.heap.size < wr.heap.size; omega)).trans ((unhide HBr).cell (p := ⟨w.heap.size, 0, none⟩) (by show w.heap.size < w1.heap.size; omega))).trans (unhide HBOX)) (((unhide HL).below (unhide HBw)).below h0) (unhide HS) (unhide HN) hn2 hin0 hin1 hin2
      have i1 : IntKind.i64.wrap ((k : Int) + 1) = (k1 : Int) := by rw [IntKind.wrap_i64]; omega
      have i2 : IntKind.i64.wrap ((k : Int) + 2) = (k2 : Int) := by rw [IntKind.wrap_i64]; omega
      have hkm0 : (k : Int) < (m : Int) := by omega
      have hkm1 : (k1 : Int) < (m : Int) := by omega
      have hkm2 : (k2 : Int) < (m : Int) := by omega
      have hkm3 : (k : Int) < (m : Int) - 2 := by omega
      have HK1 := hide (And.intro hk1 hk2)
      clear he0 he1 he2 hz hin0 hin1 hin2 hc2 hk2 hk1
      obtain ⟨LL, hLL⟩ : ∃ LL, ints (bandsTo power edges k) = LL := ⟨_, rfl⟩
      rw [hLL] at HOr HSU
      have hown := unhide HOr
      have hbw2 : b2 < wr.heap.size := by have := (unhide HBw).size; omega
      have hrow : ∀ t, t = b2 → Value.ownBlock u6 ≠ some t := fun t ht e => by have := (hown.lt t e).1; have := unhide HSZ1; omega
      clear hLL HOr
      have hbd : Below wr.heap.size wr wr.drew := ⟨rfl, rfl, rfl, Nat.le_refl _, fun _ _ => rfl⟩
      go_wp2_with fail
      go_region_held3 (fun w' => w'.cell? ⟨b2, o2 + k, none⟩ = some (.int .i64 e0) ∧ w'.cell? ⟨b2, o2 + k1, none⟩ = some (.int .i64 e1) ∧ w'.cell? ⟨b2, o2 + k2, none⟩ = some (.int .i64 e2)) (first | exact ⟨c0, c1, c2'⟩ | exact ⟨keep_grown2 hg3 hbw2 hrow c0, keep_grown2 hg3 hbw2 hrow c1, keep_grown2 hg3 hbw2 hrow c2'⟩ | go_keep) (first | (refine step_append_lies _ (by rfl) _ _ 24 (by rfl) w1.heap.size 3 i0 (.int .i64 0) 1 8 Tryd.underlying24 (unhide HI).1 (unhide HI).2.1 (unhide HI).2.2.1 (unhide HI).2.2.2 (by rfl) (by decide) _ k _ (by rfl) (hown.alloc _) ⟨wr.heap.size, 0, none⟩ 1 1 [.int .i64 z] (by rfl) (by rfl) (cell_one_new _ _ _) (ints_one [z]) (by decide) (by unfold maxLen; omega) (by omega) (by have := (unhide HBr).size; simp; omega) (wr.heap.size + 1) (by simp) ?_; intro g cp w3 hown3 hg3 hat3 hlt3) | (go_at_call 62; refine (unhide HC _ hbd).mono ?_; rintro e w' ⟨rfl, dd, rfl⟩))
      have hgr : ∀ q, Value.ownBlock _ = some q → w1.heap.size ≤ q := fun q hq => (hown.lt q hq).1
      have HB4 := hide ((((below_drewN wr _).mono (unhide HBr).size |> (unhide HBr).trans).alloc (by have := (unhide HBr).size; exact this) _).grown hg3 (by have := (unhide HBr).size; simp; omega) hgr)
      rw [← unhide HSU] at hown3
      have HO4 := hide hown3
      clear hown3 hg3 hat3 hlt3 hgr hrow hown
      go_wp2
      go_roundw
      case rel => exact ⟨k + 1, .inr (by omega), by rw [(unhide HK1).1], HO4, HB4⟩
      case measure => have := (unhide HK1).1; simp [intOf]; omega
    · have hkm : k = m - 2 := by omega
      have hge : ¬ (k : Int) < (m : Int) - 2 := by omega
      obtain ⟨a5, c5, rfl, hl5, hlen5⟩ := owned_lies (unhide HOr)
      rw [bandsTo_all power edges k (by rw [unhide HM]; exact hkm)] at hl5
      have HL5 := hide hl5
      have HB5 := hide (below_trans (unhide HB1) (unhide HBr))
      clear hl5 hlen5 HOr
      go_wp2
      go_ret
      exact ⟨_, _, _, rfl, by rw [bandsTo_all power edges (m - 2) (by rw [unhide HM])], unhide HL5, unhide HB5⟩
end Go.Proofs.YtbkdgpeooeokmaaDoor
