/- What the texts of this seat lean on: plain facts, rows in memory, and the integers' side of layer 3. -/
import Derived.Test.YtbommgfoahopfaaRows
import Derived.WalkKit
import Derived.WalkSpells
import Derived.WalkLawsBesides
import Derived.Deep.RegionWith
import Derived.Laws.AppendOwnNone
import Derived.Deep.RegionHeld3
import Derived.Deep.AppendLies
namespace Go.Proofs.Ytbommgfoahopfaa
open Go.RowKit
set_option linter.unusedVariables false

def In64 (x : Int) : Prop := -9223372036854775808 ≤ x ∧ x ≤ 9223372036854775807

theorem two_pow_le (m n : Nat) (h : m ≤ n) : (2 : Int) ^ m ≤ 2 ^ n := by
  have h1 : 2 ^ m ≤ 2 ^ n := Nat.pow_le_pow_right (by decide) h
  exact_mod_cast h1

theorem in_of_wf {x : Int} (h : (Lit.int .i64 x).wf = true) : In64 x := by
  simp [Lit.wf, IntKind.min, IntKind.max, IntKind.signed, IntKind.bits] at h
  exact ⟨by omega, by omega⟩

theorem hide {p : Prop} (h : p) : Hid p := h

theorem unhide {p : Prop} (h : Hid p) : p := h

theorem w64_in {n : Int} (h : In64 n) : wrap64 n = n := by obtain ⟨h0, h1⟩ := h; unfold wrap64; omega

theorem i64_mask (n m : Int) (k : Nat) (hk : k ≤ 62) (hm : (BitVec.ofInt 64 m).toNat = 2 ^ k - 1) : bits .and .i64 n m = n % 2 ^ k := by
  have key : (BitVec.ofInt 64 n &&& BitVec.ofInt 64 m).toNat = (n % ((2 ^ 64 : Nat) : Int)).toNat % 2 ^ k := by
    rw [BitVec.toNat_and, BitVec.toNat_ofInt, hm, Nat.and_two_pow_sub_one_eq_mod]
  show IntKind.i64.wrap ((BitVec.ofInt 64 n &&& BitVec.ofInt 64 m).toNat : Nat) = n % 2 ^ k
  rw [key, IntKind.wrap_i64]
  have h0 : 0 ≤ n % ((2 ^ 64 : Nat) : Int) := Int.emod_nonneg _ (by decide)
  have h1 : ((((n % ((2 ^ 64 : Nat) : Int)).toNat % 2 ^ k : Nat)) : Int) = n % 2 ^ k := by
    rw [Int.natCast_emod, Int.toNat_of_nonneg h0]
    have hd : ((2 ^ k : Nat) : Int) ∣ ((2 ^ 64 : Nat) : Int) := Int.natCast_dvd_natCast.2 (Nat.pow_dvd_pow 2 (by omega))
    rw [Int.emod_emod_of_dvd n hd]
    simp
  rw [h1]
  have h2 : (2 : Int) ^ k ≤ 2 ^ 62 := two_pow_le k 62 hk
  have h3 : (0 : Int) < 2 ^ k := Int.pow_pos (by decide)
  have h4 := Int.emod_nonneg n (b := 2 ^ k) (by omega)
  have h5 := Int.emod_lt_of_pos n h3
  generalize n % 2 ^ k = r at *
  generalize (2 : Int) ^ k = q at *
  have h6 : (2 : Int) ^ 62 = 4611686018427387904 := by decide
  omega

theorem i64_and63 (n : Int) : bits .and .i64 n 63 = n % 64 := i64_mask n 63 6 (by decide) (by decide)

theorem ret_int {k : IntKind} {a b : Int} (h : a = b) : Ending.returned (.int k a) = .returned (.int k b) := by rw [h]

theorem ret_bool {a b : Bool} (h : a = b) : Ending.returned (.bool a) = .returned (.bool b) := by rw [h]

/-- A slice of int lies in memory: its numbers, cell by cell. -/
def Lies (w : World) (a : Option Addr) (xs : List Int) : Prop :=
  xs = [] ∨ ∃ b off, a = some ⟨b, off, none⟩ ∧ b < w.heap.size ∧ ∀ j, j < xs.length → w.cell? ⟨b, off + j, none⟩ = some (.int .i64 (xs.getD j 0))

theorem Lies.below {w w' : World} {a : Option Addr} {xs : List Int} (h : Lies w a xs) (hb : Below w.heap.size w w') : Lies w' a xs := by
  rcases h with h | ⟨b, off, ha, hlt, hc⟩
  · exact .inl h
  · exact .inr ⟨b, off, ha, Nat.lt_of_lt_of_le hlt hb.size, fun j hj => by rw [hb.cell (p := ⟨b, off + j, none⟩) hlt]; exact hc j hj⟩

def Small (xs : List Int) : Prop := ∀ x ∈ xs, In64 x

theorem Small.at {xs : List Int} (h : Small xs) (k : Nat) (hk : k < xs.length) : In64 (xs.getD k 0) := by
  rw [List.getD_eq_getElem?_getD, List.getElem?_eq_getElem hk]
  exact h _ (List.getElem_mem hk)

theorem World.heap_drew (w : World) : w.drew.heap = w.heap := rfl

theorem lies_new (w : World) (xs : List Int) (n : Nat) (hn : n = w.heap.size) : Lies (w.alloc (.cells (xs.map (Value.int .i64)).toArray 3)) (some ⟨n, 0, none⟩) xs := by
  subst hn
  refine .inr ⟨w.heap.size, 0, rfl, by simp, fun j hj => ?_⟩
  rw [World.cell?_alloc_at _ _ _ _ rfl]
  simp [List.getD_eq_getElem?_getD, List.getElem?_eq_getElem hj]

def IsRow (k : IntKind) (w : World) (a : Option Addr) (len cap : Nat) (zs : List Int) : Prop :=
  (a = none ∧ len = 0 ∧ cap = 0 ∧ zs = []) ∨
  ∃ x, a = some x ∧ len ≤ cap ∧ cap ≤ maxLen ∧ zs.length = cap ∧ (∀ i, i < zs.length → w.cell? (x.add i) = some (.int k (zs.getD i 0))) ∧ ∀ n ∈ zs, (Lit.int k n).wf = true

theorem lt_of_cell {w : World} {p : Addr} {v : Value} (h : w.cell? p = some v) : p.block < w.heap.size := by
  rcases Nat.lt_or_ge p.block w.heap.size with h' | h'
  · exact h'
  · simp [World.cell?, Array.getElem?_eq_none h'] at h

theorem lies_of_row {w : World} {x : Addr} {zs : List Int} (n : Nat) (hn : n ≤ zs.length) (hc : ∀ i, i < zs.length → w.cell? (x.add i) = some (.int .i64 (zs.getD i 0))) : Lies w (some x) (zs.take n) := by
  by_cases h0 : n = 0
  · subst h0; exact .inl (by simp)
  · obtain ⟨b, off, spot⟩ := x
    have h1 := hc 0 (by omega)
    have hspot : spot = none := by simpa [Addr.add] using World.cell?_spot h1
    subst hspot
    refine .inr ⟨b, off, rfl, ?_, fun j hj => ?_⟩
    · have := lt_of_cell h1; simpa [Addr.add] using this
    · have hj' : j < n := by simp at hj; omega
      have h2 := hc j (by omega)
      rw [show (zs.take n).getD j 0 = zs.getD j 0 by simp [List.getD_eq_getElem?_getD, hj']]
      rw [Addr.add_lit] at h2
      exact h2

theorem small_take {zs : List Int} (n : Nat) (h : ∀ z ∈ zs, (Lit.int .i64 z).wf = true) : Small (zs.take n) := fun x hx => in_of_wf (h x (List.mem_of_mem_take hx))

theorem Try.info3 : (Try.prog.info? 3).map (fun i => (i.zero, i.size, i.bytes)) = some (some (.int .i64 0), 1, 8) := by kernel_rfl

theorem owned_lies {w : World} {base n : Nat} {v : Value} {xs : List Int} (h : w.ownsRow base 3 1 v n (xs.map (Value.int .i64))) :
    ∃ a cap, v = .slice a xs.length cap ∧ Lies w a xs ∧ xs.length = n := by
  have hn : xs.length = n := by have := h.1; simpa using this
  rcases h.2 with ⟨hv, h0⟩ | ⟨g, cap, cur, hv, hb, hg, _⟩
  · subst h0
    have hx : xs = [] := List.length_eq_zero_iff.1 hn
    subst hx
    exact ⟨none, 0, hv, .inl rfl, rfl⟩
  · refine ⟨some ⟨g, 0, none⟩, cap, by rw [hv, hn], .inr ⟨g, 0, rfl, (Array.getElem?_eq_some_iff.1 hg).1, fun j hj => ?_⟩, hn⟩
    have hc := h.cells (g := g) (by rw [hv]; rfl) j (.int .i64 (xs.getD j 0)) (by simp [List.getD_eq_getElem?_getD, List.getElem?_eq_getElem hj])
    rw [Addr.add_lit] at hc
    exact hc

theorem lies_news {w : World} {ad : Addr} {xs : List Int} (h : Lies w (some ad) xs) : ∀ j u, (xs.map (Value.int .i64))[j]? = some u → w.cell? (ad.add j) = some u := by
  intro j u hu
  rcases h with rfl | ⟨b, off, ha, _, hc⟩
  · simp at hu
  · cases ha
    rw [Addr.add_lit]
    simp at hu
    obtain ⟨z, hz, rfl⟩ := hu
    have hj : j < xs.length := (List.getElem?_eq_some_iff.1 hz).1
    rw [hc j hj, List.getD_eq_getElem?_getD, hz]; rfl

theorem ints_one (xs : List Int) : ∀ u ∈ xs.map (Value.int .i64), u.oneCell' = true := by
  intro u hu
  obtain ⟨z, _, rfl⟩ := List.mem_map.1 hu
  rfl

theorem lies_take {w : World} {a : Option Addr} {xs : List Int} (h : Lies w a xs) (k : Nat) (hk : k ≤ xs.length) : Lies w a (xs.take k) := by
  rcases h with rfl | ⟨b, off, ha, hb, hc⟩
  · exact .inl (by simp)
  · refine .inr ⟨b, off, ha, hb, fun j hj => ?_⟩
    have hj' : j < k := by simp at hj; omega
    rw [hc j (by omega)]
    simp [List.getD_eq_getElem?_getD, hj']

theorem undrew {B : Nat} {w w' : World} (h : Below B w.drew w') : Below B w w' := ⟨h.os, h.tape, h.output, h.size, h.block⟩

theorem row_came (a : Option Addr) (len cap : Nat) (zs : List Int) (w : World) (h : IsRow .i64 w a len cap zs) :
    ∃ xs : List Int, xs.length ≤ 40 ∧ xs.length = min len 40 ∧ len ≤ 9223372036854775807 ∧ Lies w a xs ∧ Small xs := by
  rcases h with ⟨rfl, rfl, rfl, rfl⟩ | ⟨x, rfl, hl, hm, hz, hcell, hwz⟩
  · exact ⟨[], by simp, by simp, by omega, .inl rfl, by intro x hx; simp at hx⟩
  · unfold maxLen at hm
    refine ⟨zs.take (min len 40), ?_, ?_, by omega, lies_of_row (min len 40) (by omega) hcell, small_take (min len 40) hwz⟩
    · rw [List.length_take]; omega
    · rw [List.length_take]; omega

/-- How many binary digits. -/
def bl (x : Nat) : Nat := if x = 0 then 0 else Nat.log2 x + 1

theorem bl_zero : bl 0 = 0 := rfl

theorem bl_lt (x : Nat) : x < 2 ^ bl x := by
  unfold bl
  split
  · rename_i h; rw [h]; decide
  · exact Nat.lt_log2_self

theorem bl_ge (x : Nat) (h : x ≠ 0) : 2 ^ (bl x - 1) ≤ x ∧ 1 ≤ bl x := by
  unfold bl
  rw [if_neg h]
  exact ⟨Nat.log2_self_le h, by omega⟩

theorem bl_eq (x b : Nat) (h1 : 2 ^ b ≤ x) (h2 : x < 2 ^ (b + 1)) : bl x = b + 1 := by
  have h0 : x ≠ 0 := by have := Nat.two_pow_pos b; omega
  obtain ⟨h3, h4⟩ := bl_ge x h0
  have h5 := bl_lt x
  have h6 : ¬ bl x < b + 1 := fun h => by
    have := Nat.pow_le_pow_right (n := 2) (by decide) (show bl x ≤ b by omega)
    omega
  have h7 : ¬ b + 1 < bl x := fun h => by
    have := Nat.pow_le_pow_right (n := 2) (by decide) (show b + 1 ≤ bl x - 1 by omega)
    omega
  omega

theorem bl_le (x b : Nat) (h : x < 2 ^ b) : bl x ≤ b := by
  by_cases h0 : x = 0
  · rw [h0, bl_zero]; omega
  · obtain ⟨h3, h4⟩ := bl_ge x h0
    by_cases h5 : b + 1 ≤ bl x
    · have := Nat.pow_le_pow_right (n := 2) (by decide) (show b ≤ bl x - 1 by omega)
      omega
    · omega

theorem bl_mono (x y : Nat) (h : x ≤ y) : bl x ≤ bl y := bl_le x _ (by have := bl_lt y; omega)

theorem bl_half (x : Nat) (h : x ≠ 0) : bl x = bl (x / 2) + 1 := by
  obtain ⟨h3, h4⟩ := bl_ge x h
  have h5 := bl_lt x
  obtain ⟨b, hb⟩ : ∃ b, bl x = b + 1 := ⟨bl x - 1, by omega⟩
  rw [hb] at h3 h5 ⊢
  simp only [Nat.add_sub_cancel] at h3
  rw [Nat.pow_succ] at h5
  cases b with
  | zero =>
    have : x = 1 := by simp at h3 h5; omega
    rw [this]; rfl
  | succ b =>
    rw [bl_eq (x / 2) b (by rw [Nat.pow_succ] at h3; omega) (by omega)]

theorem bl_twice (x : Nat) (h : x ≠ 0) : bl (2 * x) = bl x + 1 := by
  rw [bl_half (2 * x) (by omega), Nat.mul_div_cancel_left _ (by decide)]

theorem bl_pow (k : Nat) : bl (2 ^ k) = k + 1 := bl_eq _ _ (Nat.le_refl _) (by rw [Nat.pow_succ]; have := Nat.two_pow_pos k; omega)

/-- x moved so that its highest bit is bit 31. -/
def nrm (x : Nat) : Nat := if bl x ≤ 32 then x * 2 ^ (32 - bl x) else x / 2 ^ (bl x - 32)

theorem nrm_bd (x : Nat) (h : x ≠ 0) : 2147483648 ≤ nrm x ∧ nrm x < 4294967296 := by
  obtain ⟨h3, h4⟩ := bl_ge x h
  have h5 := bl_lt x
  unfold nrm
  generalize bl x = b at *
  split
  · have e1 : (2147483648 : Nat) = 2 ^ (b - 1) * 2 ^ (32 - b) := by
      rw [← Nat.pow_add, show b - 1 + (32 - b) = 31 by omega]
    have e2 : (4294967296 : Nat) = 2 ^ b * 2 ^ (32 - b) := by
      rw [← Nat.pow_add, show b + (32 - b) = 32 by omega]
    have hp := Nat.two_pow_pos (32 - b)
    exact ⟨by rw [e1]; exact Nat.mul_le_mul_right _ h3, by rw [e2]; exact (Nat.mul_lt_mul_right hp).2 h5⟩
  · have e1 : 2147483648 * 2 ^ (b - 32) = 2 ^ (b - 1) := by
      rw [show (2147483648 : Nat) = 2 ^ 31 by decide, ← Nat.pow_add, show 31 + (b - 32) = b - 1 by omega]
    have e2 : 4294967296 * 2 ^ (b - 32) = 2 ^ b := by
      rw [show (4294967296 : Nat) = 2 ^ 32 by decide, ← Nat.pow_add, show 32 + (b - 32) = b by omega]
    have hp := Nat.two_pow_pos (b - 32)
    exact ⟨by rw [Nat.le_div_iff_mul_le hp, e1]; exact h3, by rw [Nat.div_lt_iff_lt_mul hp, e2]; exact h5⟩

theorem nrm_mono (x y : Nat) (h : x ≤ y) (hb : bl x = bl y) : nrm x ≤ nrm y := by
  unfold nrm
  rw [hb]
  split
  · exact Nat.mul_le_mul_right _ h
  · exact Nat.div_le_div_right h

theorem nrm_twice (x : Nat) (h : x ≠ 0) : nrm (2 * x) = nrm x := by
  unfold nrm
  rw [bl_twice x h]
  by_cases c : bl x ≤ 31
  · rw [if_pos (by omega), if_pos (by omega), show 32 - bl x = (32 - (bl x + 1)) + 1 by omega, Nat.pow_succ, Nat.mul_comm 2 x, Nat.mul_assoc, Nat.mul_comm 2]
  · by_cases c2 : bl x = 32
    · rw [c2]; simp
    · rw [if_neg (by omega), if_neg (by omega), show bl x + 1 - 32 = (bl x - 32) + 1 by omega, Nat.pow_succ, Nat.mul_comm (2 ^ (bl x - 32)) 2, Nat.mul_div_mul_left _ _ (by decide)]

/-- One digit: the digit, and what m is then. -/
def dg (m : Nat) : Nat := if 4294967296 ≤ m * m / 2147483648 then 1 else 0

def nx (m : Nat) : Nat := if 4294967296 ≤ m * m / 2147483648 then m * m / 2147483648 / 2 else m * m / 2147483648

theorem dg_le (m : Nat) : dg m ≤ 1 := by unfold dg; split <;> omega

theorem sq_bd (m : Nat) (h1 : 2147483648 ≤ m) (h2 : m < 4294967296) : 2147483648 ≤ m * m / 2147483648 ∧ m * m / 2147483648 < 8589934592 := by
  have h3 := Nat.mul_le_mul h1 h1
  have h4 := Nat.mul_le_mul (show m ≤ 4294967295 by omega) (show m ≤ 4294967295 by omega)
  omega

theorem nx_bd (m : Nat) (h1 : 2147483648 ≤ m) (h2 : m < 4294967296) : 2147483648 ≤ nx m ∧ nx m < 4294967296 := by
  have h3 := sq_bd m h1 h2
  unfold nx
  split <;> omega

theorem dn_mono (m n : Nat) (h : m ≤ n) (hn : n * n / 2147483648 < 8589934592) : dg m < dg n ∨ (dg m = dg n ∧ nx m ≤ nx n) := by
  have h1 : m * m / 2147483648 ≤ n * n / 2147483648 := Nat.div_le_div_right (Nat.mul_le_mul h h)
  unfold dg nx
  repeat' split
  all_goals omega

/-- m behind k digits; the first k digits, as a number. -/
def ms : Nat → Nat → Nat
  | 0, m => m
  | k + 1, m => nx (ms k m)

def digs : Nat → Nat → Nat
  | 0, _ => 0
  | k + 1, m => digs k m * 2 + dg (ms k m)

theorem ms_bd (k m : Nat) (h1 : 2147483648 ≤ m) (h2 : m < 4294967296) : 2147483648 ≤ ms k m ∧ ms k m < 4294967296 := by
  induction k with
  | zero => exact ⟨h1, h2⟩
  | succ k ih => exact nx_bd _ ih.1 ih.2

theorem digs_lt (k m : Nat) : digs k m < 2 ^ k := by
  induction k with
  | zero => simp [digs]
  | succ k ih =>
    have := dg_le (ms k m)
    rw [Nat.pow_succ]
    unfold digs
    omega

theorem digs_mono (k m n : Nat) (h : m ≤ n) (h1 : 2147483648 ≤ n) (h2 : n < 4294967296) : digs k m < digs k n ∨ (digs k m = digs k n ∧ ms k m ≤ ms k n) := by
  induction k with
  | zero => exact .inr ⟨rfl, h⟩
  | succ k ih =>
    have b := ms_bd k n h1 h2
    have l1 := dg_le (ms k m)
    rcases ih with ih | ⟨ih, ih2⟩
    · left
      show digs k m * 2 + dg (ms k m) < digs k n * 2 + dg (ms k n)
      omega
    · have d := dn_mono (ms k m) (ms k n) ih2 (sq_bd _ b.1 b.2).2
      show digs k m * 2 + dg (ms k m) < digs k n * 2 + dg (ms k n) ∨ (digs k m * 2 + dg (ms k m) = digs k n * 2 + dg (ms k n) ∧ nx (ms k m) ≤ nx (ms k n))
      omega

theorem ms_shift (k m : Nat) : ms (k + 1) m = ms k (nx m) := by
  induction k with
  | zero => rfl
  | succ k ih => show nx (ms (k + 1) m) = nx (ms k (nx m)); rw [ih]

theorem digs_shift (k m : Nat) : digs (k + 1) m = dg m * 2 ^ k + digs k (nx m) := by
  induction k with
  | zero => simp [digs, ms]
  | succ k ih =>
    show digs (k + 1) m * 2 + dg (ms (k + 1) m) = dg m * 2 ^ (k + 1) + (digs k (nx m) * 2 + dg (ms k (nx m)))
    rw [ih, ms_shift, Nat.pow_succ, ← Nat.mul_assoc]
    omega

/-- The logarithm. -/
def logN (x : Nat) : Nat := if x = 0 then 0 else 256 * (bl x - 1) + digs 8 (nrm x)

theorem logN_pos (x : Nat) (h : x ≠ 0) : logN x = 256 * (bl x - 1) + digs 8 (nrm x) := by unfold logN; rw [if_neg h]

theorem logN_bd (x : Nat) (h : x ≠ 0) : 256 * (bl x - 1) ≤ logN x ∧ logN x < 256 * bl x := by
  have h1 := digs_lt 8 (nrm x)
  have h2 := (bl_ge x h).2
  rw [logN_pos x h]
  omega

theorem logN_mono (x y : Nat) (h : x ≤ y) : logN x ≤ logN y := by
  by_cases h0 : x = 0
  · rw [h0]; exact Nat.zero_le _
  · have h1 := logN_bd x h0
    have h2 := logN_bd y (by omega)
    have h3 := bl_mono x y h
    by_cases h4 : bl x = bl y
    · rw [logN_pos x h0, logN_pos y (by omega), h4]
      have b := nrm_bd y (by omega)
      have := digs_mono 8 _ _ (nrm_mono x y h h4) b.1 b.2
      omega
    · omega

theorem logN_twice (x : Nat) (h : x ≠ 0) : logN (2 * x) = logN x + 256 := by
  rw [logN_pos _ (by omega), logN_pos x h, bl_twice x h, nrm_twice x h]
  have := (bl_ge x h).2
  omega

theorem ms_least (k : Nat) : ms k 2147483648 = 2147483648 := by
  induction k with
  | zero => rfl
  | succ k ih => show nx (ms k 2147483648) = _; rw [ih]; decide

theorem digs_least (k : Nat) : digs k 2147483648 = 0 := by
  induction k with
  | zero => rfl
  | succ k ih => show digs k 2147483648 * 2 + dg (ms k 2147483648) = 0; rw [ih, ms_least]; decide

theorem nrm_pow (k : Nat) : nrm (2 ^ k) = 2147483648 := by
  unfold nrm
  rw [bl_pow]
  split
  · rw [← Nat.pow_add, show k + (32 - (k + 1)) = 31 by omega]
  · rw [show k = 31 + (k + 1 - 32) by omega, show 31 + (k + 1 - 32) + 1 - 32 = k + 1 - 32 by omega, Nat.pow_add, Nat.mul_div_cancel _ (Nat.two_pow_pos _)]

theorem logN_pow (k : Nat) : logN (2 ^ k) = 256 * k := by
  have := Nat.two_pow_pos k
  rw [logN_pos _ (by omega), bl_pow, nrm_pow, digs_least]
  omega

theorem shift_div (x p q : Nat) : x * 2 ^ p / 2 ^ q = if q ≤ p then x * 2 ^ (p - q) else x / 2 ^ (q - p) := by
  split
  · rename_i h
    have e : 2 ^ p = 2 ^ (p - q) * 2 ^ q := by rw [← Nat.pow_add, show p - q + q = p by omega]
    rw [e, ← Nat.mul_assoc, Nat.mul_div_cancel _ (Nat.two_pow_pos _)]
  · rename_i h
    have e : 2 ^ q = 2 ^ (q - p) * 2 ^ p := by rw [← Nat.pow_add, show q - p + p = q by omega]
    rw [e, Nat.mul_div_mul_right _ _ (Nat.two_pow_pos _)]

theorem square_step (b : Nat) (h0 : b ≠ 0) (h1 : b < 4294967296) : bl (b * b) = 2 * (bl b - 1) + dg (nrm b) + 1 ∧ nrm (b * b) = nx (nrm b) := by
  obtain ⟨h3, h4⟩ := bl_ge b h0
  have h5 := bl_lt b
  have h6 := bl_le b 32 h1
  have em : nrm b = b * 2 ^ (32 - bl b) := by unfold nrm; rw [if_pos h6]
  obtain ⟨c, hc⟩ : ∃ c, bl b = c + 1 := ⟨bl b - 1, by omega⟩
  rw [hc] at h3 h5 h6 em ⊢
  simp only [Nat.add_sub_cancel] at h3 ⊢
  have hm2 : nrm b * nrm b = (b * b) * 2 ^ (62 - 2 * c) := by
    rw [em, Nat.mul_mul_mul_comm, ← Nat.pow_add, show 32 - (c + 1) + (32 - (c + 1)) = 62 - 2 * c by omega]
  have lo : 2 ^ (2 * c) ≤ b * b := by
    have := Nat.mul_le_mul h3 h3
    rw [← Nat.pow_add] at this
    rwa [show c + c = 2 * c by omega] at this
  have hi : b * b < 2 ^ (2 * c + 2) := by
    have := Nat.mul_lt_mul'' h5 h5
    rw [← Nat.pow_add] at this
    rwa [show c + 1 + (c + 1) = 2 * c + 2 by omega] at this
  have e31 : nrm b * nrm b / 2147483648 = if 31 ≤ 62 - 2 * c then b * b * 2 ^ (62 - 2 * c - 31) else b * b / 2 ^ (31 - (62 - 2 * c)) := by
    rw [hm2, show (2147483648 : Nat) = 2 ^ 31 by decide, shift_div]
  have e32 : nrm b * nrm b / 2147483648 / 2 = if 32 ≤ 62 - 2 * c then b * b * 2 ^ (62 - 2 * c - 32) else b * b / 2 ^ (32 - (62 - 2 * c)) := by
    rw [Nat.div_div_eq_div_mul, hm2, show 2147483648 * 2 = (2 : Nat) ^ 32 by decide, shift_div]
  have hd : (4294967296 ≤ nrm b * nrm b / 2147483648) ↔ 2 ^ (2 * c + 1) ≤ b * b := by
    rw [Nat.le_div_iff_mul_le (by decide), hm2, show 4294967296 * 2147483648 = 2 ^ (2 * c + 1) * 2 ^ (62 - 2 * c) by rw [← Nat.pow_add, show 2 * c + 1 + (62 - 2 * c) = 63 by omega]]
    exact Nat.mul_le_mul_right_iff (Nat.two_pow_pos _)
  by_cases hh : 2 ^ (2 * c + 1) ≤ b * b
  · have hb := bl_eq (b * b) (2 * c + 1) hh hi
    have hd1 : dg (nrm b) = 1 := by unfold dg; rw [if_pos (hd.2 hh)]
    refine ⟨by rw [hb, hd1], ?_⟩
    unfold nx
    rw [if_pos (hd.2 hh), e32]
    conv => lhs; unfold nrm
    rw [hb]
    by_cases q : 2 * c + 1 + 1 ≤ 32
    · rw [if_pos q, if_pos (by omega), show 62 - 2 * c - 32 = 32 - (2 * c + 1 + 1) by omega]
    · by_cases q2 : 2 * c = 30
      · omega
      · rw [if_neg q, if_neg (by omega), show 32 - (62 - 2 * c) = 2 * c + 1 + 1 - 32 by omega]
  · have hb := bl_eq (b * b) (2 * c) lo (by omega)
    have hd0 : dg (nrm b) = 0 := by unfold dg; rw [if_neg (fun h => hh (hd.1 h))]
    refine ⟨by rw [hb, hd0], ?_⟩
    unfold nx
    rw [if_neg (fun h => hh (hd.1 h)), e31]
    conv => lhs; unfold nrm
    rw [hb]
    by_cases q : 2 * c + 1 ≤ 32
    · rw [if_pos q, if_pos (by omega), show 62 - 2 * c - 31 = 32 - (2 * c + 1) by omega]
    · rw [if_neg q, if_neg (by omega), show 31 - (62 - 2 * c) = 2 * c + 1 - 32 by omega]

theorem logN_square (b : Nat) (h0 : b ≠ 0) (h1 : b < 4294967296) : logN (b * b) = 2 * logN b ∨ logN (b * b) = 2 * logN b + 1 := by
  have hs := square_step b h0 h1
  have hb0 : b * b ≠ 0 := by have := Nat.mul_pos (Nat.pos_of_ne_zero h0) (Nat.pos_of_ne_zero h0); omega
  rw [logN_pos _ hb0, logN_pos b h0, hs.1, hs.2]
  have e1 := digs_shift 8 (nrm b)
  have e2 : digs (8 + 1) (nrm b) = digs 8 (nrm b) * 2 + dg (ms 8 (nrm b)) := rfl
  have e3 := dg_le (ms 8 (nrm b))
  have e4 := (bl_ge b h0).2
  omega

/-- The greatest number whose square is not above x. -/
def rootN : Nat → Nat
  | 0 => 0
  | x + 1 => if (rootN x + 1) * (rootN x + 1) ≤ x + 1 then rootN x + 1 else rootN x

theorem rootN_sq (x : Nat) : rootN x * rootN x ≤ x ∧ x < (rootN x + 1) * (rootN x + 1) := by
  induction x with
  | zero => decide
  | succ x ih =>
    unfold rootN
    split
    · rename_i h
      refine ⟨h, ?_⟩
      have h2 := ih.2
      generalize rootN x = r at *
      have : (r + 1 + 1) * (r + 1 + 1) = (r + 1) * (r + 1) + 2 * (r + 1) + 1 := by grind
      omega
    · rename_i h
      exact ⟨by have := ih.1; omega, by omega⟩

theorem root_le_of (r s x : Nat) (h1 : r * r ≤ x) (h2 : x < (s + 1) * (s + 1)) : r ≤ s := by
  rcases Nat.lt_or_ge s r with h | h
  · have := Nat.mul_le_mul (show s + 1 ≤ r from h) (show s + 1 ≤ r from h); omega
  · exact h

theorem rootN_eq (x r : Nat) (h1 : r * r ≤ x) (h2 : x < (r + 1) * (r + 1)) : rootN x = r := by
  have h3 := rootN_sq x
  have h4 := root_le_of _ _ _ h3.1 h2
  have h5 := root_le_of _ _ _ h1 h3.2
  omega

theorem rootN_mono (x y : Nat) (h : x ≤ y) : rootN x ≤ rootN y :=
  root_le_of _ _ y (by have := (rootN_sq x).1; omega) (rootN_sq y).2

theorem rootN_square (y : Nat) : rootN (y * y) = y := by
  refine rootN_eq _ _ (Nat.le_refl _) ?_
  have : (y + 1) * (y + 1) = y * y + 2 * y + 1 := by grind
  omega

theorem rootN_lt (x : Nat) (h : x < 18446744073709551616) : rootN x < 4294967296 := by
  have := root_le_of (rootN x) 4294967295 x (rootN_sq x).1 (by omega)
  omega

theorem rootN_left (x : Nat) : x - rootN x * rootN x ≤ 2 * rootN x := by
  have h := (rootN_sq x).2
  have : (rootN x + 1) * (rootN x + 1) = rootN x * rootN x + 2 * rootN x + 1 := by grind
  omega

theorem rootN_four (z : Nat) : rootN (z * 4) = 2 * rootN z ∨ rootN (z * 4) = 2 * rootN z + 1 := by
  have h := rootN_sq z
  have k := rootN_sq (z * 4)
  have e1 : (2 * rootN z) * (2 * rootN z) = 4 * (rootN z * rootN z) := by grind
  have e2 : (2 * rootN z + 1 + 1) * (2 * rootN z + 1 + 1) = 4 * ((rootN z + 1) * (rootN z + 1)) := by grind
  have h1 := root_le_of (2 * rootN z) _ (z * 4) (by omega) k.2
  have h2 := root_le_of _ (2 * rootN z + 1) (z * 4) k.1 (by omega)
  omega

/-- The greatest bits of a row, whatever the signs. -/
def normN : List Int → Nat
  | [] => 0
  | x :: l => max (bl x.natAbs) (normN l)

theorem normN_append (l k : List Int) : normN (l ++ k) = max (normN l) (normN k) := by
  induction l with
  | nil => simp [normN]
  | cons x l ih => show max (bl x.natAbs) (normN (l ++ k)) = max (max (bl x.natAbs) (normN l)) (normN k); rw [ih, Nat.max_assoc]

theorem normN_one (x : Int) : normN [x] = bl x.natAbs := by simp [normN]

theorem normN_mem (l : List Int) (x : Int) (h : x ∈ l) : bl x.natAbs ≤ normN l := by
  induction l with
  | nil => simp at h
  | cons y l ih =>
    unfold normN
    rcases List.mem_cons.1 h with rfl | h
    · exact Nat.le_max_left _ _
    · exact Nat.le_trans (ih h) (Nat.le_max_right _ _)

theorem normN_take (l : List Int) (k : Nat) : normN (l.take k) ≤ normN l := by
  have := normN_append (l.take k) (l.drop k)
  rw [List.take_append_drop] at this
  omega

theorem normN_met (l : List Int) : normN l = 0 ∨ ∃ x ∈ l, bl x.natAbs = normN l := by
  induction l with
  | nil => exact .inl rfl
  | cons y l ih =>
    right
    unfold normN
    rcases Nat.le_total (normN l) (bl y.natAbs) with h | h
    · exact ⟨y, List.mem_cons_self, by omega⟩
    · rcases ih with ih | ⟨x, hx, ih⟩
      · exact ⟨y, List.mem_cons_self, by omega⟩
      · exact ⟨x, List.mem_cons_of_mem _ hx, by omega⟩
end Go.Proofs.Ytbommgfoahopfaa
