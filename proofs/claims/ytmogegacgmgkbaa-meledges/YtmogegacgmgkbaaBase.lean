/- Contracts of rounds and logs over this seat, and the mathematics of bands. -/
import Derived.Test.YtmogegacgmgkbaaRows
import Derived.WalkKit
import Derived.WalkSpells
import Derived.WalkLawsBesides
import Derived.Deep.RegionWith
import Derived.Laws.AppendOwnNone
import Derived.Deep.RegionHeld3
import Derived.Deep.AppendLies
import Derived.Lib.BitFns
import Derived.Lib.Small
import Derived.Lib.Walk
import Derived.Laws.IdiomStrings
import Derived.Orders
import Derived.Deep.LoopGhost
import Derived.Laws.CopyOwn
import Derived.Deep.OwnRows
import Derived.Deep.QuietTactic
import Derived.BigQuiet
import Derived.ProofKit
import Derived.OpenShut
import Derived.Deep.Slices
import Derived.Deep.Strs
import Derived.BigRegion
import Derived.Deep.RegionLaw
namespace Go.Proofs.Ytmogegacgmgkbaa
open Go.RowKit
set_option linter.unusedVariables false

def In64 (x : Int) : Prop := -9223372036854775808 ≤ x ∧ x ≤ 9223372036854775807

theorem two_pow_le (m n : Nat) (h : m ≤ n) : (2 : Int) ^ m ≤ 2 ^ n := by
  have h1 : 2 ^ m ≤ 2 ^ n := Nat.pow_le_pow_right (by decide) h
  exact_mod_cast h1

theorem in_of_wf {x : Int} (h : (Lit.int .i64 x).wf = true) : In64 x := by
  simp [Lit.wf, IntKind.min, IntKind.max, IntKind.signed, IntKind.bits] at h
  exact ⟨by omega, by omega⟩

theorem hide {p : Prop} (h : p) : Hid p := h

theorem unhide {p : Prop} (h : Hid p) : p := h

theorem w64_in {n : Int} (h : In64 n) : wrap64 n = n := by obtain ⟨h0, h1⟩ := h; unfold wrap64; omega

theorem i64_mask (n m : Int) (k : Nat) (hk : k ≤ 62) (hm : (BitVec.ofInt 64 m).toNat = 2 ^ k - 1) : bits .and .i64 n m = n % 2 ^ k := by
  have key : (BitVec.ofInt 64 n &&& BitVec.ofInt 64 m).toNat = (n % ((2 ^ 64 : Nat) : Int)).toNat % 2 ^ k := by
    rw [BitVec.toNat_and, BitVec.toNat_ofInt, hm, Nat.and_two_pow_sub_one_eq_mod]
  show IntKind.i64.wrap ((BitVec.ofInt 64 n &&& BitVec.ofInt 64 m).toNat : Nat) = n % 2 ^ k
  rw [key, IntKind.wrap_i64]
  have h0 : 0 ≤ n % ((2 ^ 64 : Nat) : Int) := Int.emod_nonneg _ (by decide)
  have h1 : ((((n % ((2 ^ 64 : Nat) : Int)).toNat % 2 ^ k : Nat)) : Int) = n % 2 ^ k := by
    rw [Int.natCast_emod, Int.toNat_of_nonneg h0]
    have hd : ((2 ^ k : Nat) : Int) ∣ ((2 ^ 64 : Nat) : Int) := Int.natCast_dvd_natCast.2 (Nat.pow_dvd_pow 2 (by omega))
    rw [Int.emod_emod_of_dvd n hd]
    simp
  rw [h1]
  have h2 : (2 : Int) ^ k ≤ 2 ^ 62 := two_pow_le k 62 hk
  have h3 : (0 : Int) < 2 ^ k := Int.pow_pos (by decide)
  have h4 := Int.emod_nonneg n (b := 2 ^ k) (by omega)
  have h5 := Int.emod_lt_of_pos n h3
  generalize n % 2 ^ k = r at *
  generalize (2 : Int) ^ k = q at *
  have h6 : (2 : Int) ^ 62 = 4611686018427387904 := by decide
  omega

theorem i64_and63 (n : Int) : bits .and .i64 n 63 = n % 64 := i64_mask n 63 6 (by decide) (by decide)

theorem ret_int {k : IntKind} {a b : Int} (h : a = b) : Ending.returned (.int k a) = .returned (.int k b) := by rw [h]

theorem ret_ii {k l : IntKind} {a b c d : Int} (h : a = b ∧ c = d) : Ending.returned (.tuple #[.int k a, .int l c]) = .returned (.tuple #[.int k b, .int l d]) := by rw [h.1, h.2]

/-- A slice of int lies in memory: its numbers, cell by cell. -/
def Lies (w : World) (a : Option Addr) (xs : List Int) : Prop :=
  xs = [] ∨ ∃ b off, a = some ⟨b, off, none⟩ ∧ b < w.heap.size ∧ ∀ j, j < xs.length → w.cell? ⟨b, off + j, none⟩ = some (.int .i64 (xs.getD j 0))

theorem Lies.below {w w' : World} {a : Option Addr} {xs : List Int} (h : Lies w a xs) (hb : Below w.heap.size w w') : Lies w' a xs := by
  rcases h with h | ⟨b, off, ha, hlt, hc⟩
  · exact .inl h
  · exact .inr ⟨b, off, ha, Nat.lt_of_lt_of_le hlt hb.size, fun j hj => by rw [hb.cell (p := ⟨b, off + j, none⟩) hlt]; exact hc j hj⟩

def Small (xs : List Int) : Prop := ∀ x ∈ xs, In64 x

theorem Small.at {xs : List Int} (h : Small xs) (k : Nat) (hk : k < xs.length) : In64 (xs.getD k 0) := by
  rw [List.getD_eq_getElem?_getD, List.getElem?_eq_getElem hk]
  exact h _ (List.getElem_mem hk)

theorem World.heap_drew (w : World) : w.drew.heap = w.heap := rfl

theorem lies_new (w : World) (xs : List Int) (n : Nat) (hn : n = w.heap.size) : Lies (w.alloc (.cells (xs.map (Value.int .i64)).toArray 3)) (some ⟨n, 0, none⟩) xs := by
  subst hn
  refine .inr ⟨w.heap.size, 0, rfl, by simp, fun j hj => ?_⟩
  rw [World.cell?_alloc_at _ _ _ _ rfl]
  simp [List.getD_eq_getElem?_getD, List.getElem?_eq_getElem hj]

def IsRow (k : IntKind) (w : World) (a : Option Addr) (len cap : Nat) (zs : List Int) : Prop :=
  (a = none ∧ len = 0 ∧ cap = 0 ∧ zs = []) ∨
  ∃ x, a = some x ∧ len ≤ cap ∧ cap ≤ maxLen ∧ zs.length = cap ∧ (∀ i, i < zs.length → w.cell? (x.add i) = some (.int k (zs.getD i 0))) ∧ ∀ n ∈ zs, (Lit.int k n).wf = true

theorem lt_of_cell {w : World} {p : Addr} {v : Value} (h : w.cell? p = some v) : p.block < w.heap.size := by
  rcases Nat.lt_or_ge p.block w.heap.size with h' | h'
  · exact h'
  · simp [World.cell?, Array.getElem?_eq_none h'] at h

theorem lies_of_row {w : World} {x : Addr} {zs : List Int} (n : Nat) (hn : n ≤ zs.length) (hc : ∀ i, i < zs.length → w.cell? (x.add i) = some (.int .i64 (zs.getD i 0))) : Lies w (some x) (zs.take n) := by
  by_cases h0 : n = 0
  · subst h0; exact .inl (by simp)
  · obtain ⟨b, off, spot⟩ := x
    have h1 := hc 0 (by omega)
    have hspot : spot = none := by simpa [Addr.add] using World.cell?_spot h1
    subst hspot
    refine .inr ⟨b, off, rfl, ?_, fun j hj => ?_⟩
    · have := lt_of_cell h1; simpa [Addr.add] using this
    · have hj' : j < n := by simp at hj; omega
      have h2 := hc j (by omega)
      rw [show (zs.take n).getD j 0 = zs.getD j 0 by simp [List.getD_eq_getElem?_getD, hj']]
      rw [Addr.add_lit] at h2
      exact h2

theorem small_take {zs : List Int} (n : Nat) (h : ∀ z ∈ zs, (Lit.int .i64 z).wf = true) : Small (zs.take n) := fun x hx => in_of_wf (h x (List.mem_of_mem_take hx))

theorem ob (bits : Int) : wrap64 (1 + Go.bits BinOp.and IntKind.i64 bits 63) = 1 + bits % 64 := by
  rw [i64_and63, w64_in ⟨by omega, by omega⟩]

theorem Try.info3 : (Try.prog.info? 3).map (fun i => (i.zero, i.size, i.bytes)) = some (some (.int .i64 0), 1, 8) := by kernel_rfl

theorem owned_lies {w : World} {base n : Nat} {v : Value} {xs : List Int} (h : w.ownsRow base 3 1 v n (xs.map (Value.int .i64))) :
    ∃ a cap, v = .slice a xs.length cap ∧ Lies w a xs ∧ xs.length = n := by
  have hn : xs.length = n := by have := h.1; simpa using this
  rcases h.2 with ⟨hv, h0⟩ | ⟨g, cap, cur, hv, hb, hg, _⟩
  · subst h0
    have hx : xs = [] := List.length_eq_zero_iff.1 hn
    subst hx
    exact ⟨none, 0, hv, .inl rfl, rfl⟩
  · refine ⟨some ⟨g, 0, none⟩, cap, by rw [hv, hn], .inr ⟨g, 0, rfl, (Array.getElem?_eq_some_iff.1 hg).1, fun j hj => ?_⟩, hn⟩
    have hc := h.cells (g := g) (by rw [hv]; rfl) j (.int .i64 (xs.getD j 0)) (by simp [List.getD_eq_getElem?_getD, List.getElem?_eq_getElem hj])
    rw [Addr.add_lit] at hc
    exact hc

theorem lies_news {w : World} {ad : Addr} {xs : List Int} (h : Lies w (some ad) xs) : ∀ j u, (xs.map (Value.int .i64))[j]? = some u → w.cell? (ad.add j) = some u := by
  intro j u hu
  rcases h with rfl | ⟨b, off, ha, _, hc⟩
  · simp at hu
  · cases ha
    rw [Addr.add_lit]
    simp at hu
    obtain ⟨z, hz, rfl⟩ := hu
    have hj : j < xs.length := (List.getElem?_eq_some_iff.1 hz).1
    rw [hc j hj, List.getD_eq_getElem?_getD, hz]; rfl

theorem ints_one (xs : List Int) : ∀ u ∈ xs.map (Value.int .i64), u.oneCell' = true := by
  intro u hu
  obtain ⟨z, _, rfl⟩ := List.mem_map.1 hu
  rfl

theorem keep_grown {w w' : World} {o : Obj} {row : Option Nat} {b off : Nat} {v : Value} (hg : ((w.alloc o).drew).grownBy w' row) (hp : b < w.heap.size) (hr : ∀ j, j = b → row ≠ some j) (hc : w.cell? ⟨b, off, none⟩ = some v) : w'.cell? ⟨b, off, none⟩ = some v := by
  rw [← hc]
  apply World.cell?_of_block
  show w'.heap[b]? = w.heap[b]?
  rw [hg.block b (by show b < (w.alloc o).heap.size; simp; omega) (fun e => hr b rfl e.symm)]
  exact Below.heap_alloc w o b hp

theorem below_trans {w w1 w2 : World} (h1 : Below w.heap.size w w1) (h2 : Below w1.heap.size w1 w2) : Below w.heap.size w w2 := h1.trans (h2.mono h1.size)

theorem undrew {B : Nat} {w w' : World} (h : Below B w.drew w') : Below B w w' := ⟨h.os, h.tape, h.output, h.size, h.block⟩

def quoI (x n : Int) : Int := if n < 1 then 0 else x / n

def remI (x n : Int) : Int := if n < 1 then 0 else x % n

theorem quoI_pos (x n : Int) (h : 1 ≤ n) : quoI x n = x / n := by unfold quoI; rw [if_neg (by omega)]

theorem remI_pos (x n : Int) (h : 1 ≤ n) : remI x n = x % n := by unfold remI; rw [if_neg (by omega)]

theorem quoI_no (x n : Int) (h : n < 1) : quoI x n = 0 := by unfold quoI; rw [if_pos h]

theorem remI_no (x n : Int) (h : n < 1) : remI x n = 0 := by unfold remI; rw [if_pos h]

theorem tq_neg (x n : Int) (h : 1 ≤ n) (hr : x.tmod n < 0) : x.tdiv n = x / n + 1 ∧ x.tmod n = x % n - n := by
  have h1 := Int.mul_tdiv_add_tmod x n
  have h2 := Int.lt_tmod_of_pos x (b := n) (by omega)
  have h3 : x = (x.tmod n + n) + (x.tdiv n - 1) * n := by
    rw [Int.sub_mul, Int.mul_comm (x.tdiv n) n]; omega
  have h4 : x / n = x.tdiv n - 1 := by
    conv => lhs; rw [h3]
    rw [Int.add_mul_ediv_right _ _ (by omega), Int.ediv_eq_zero_of_lt (by omega) (by omega)]; omega
  have h5 : x % n = x.tmod n + n := by
    conv => lhs; rw [h3]
    rw [Int.add_mul_emod_self_right, Int.emod_eq_of_lt (by omega) (by omega)]
  omega

theorem tq_pos (x n : Int) (h : 1 ≤ n) (hr : ¬ x.tmod n < 0) : x.tdiv n = x / n ∧ x.tmod n = x % n := by
  have h1 := Int.mul_tdiv_add_tmod x n
  have h2 := Int.tmod_lt_of_pos x (b := n) (by omega)
  have h3 : x = x.tmod n + x.tdiv n * n := by
    rw [Int.mul_comm (x.tdiv n) n]; omega
  have h4 : x / n = x.tdiv n := by
    conv => lhs; rw [h3]
    rw [Int.add_mul_ediv_right _ _ (by omega), Int.ediv_eq_zero_of_lt (by omega) (by omega)]; omega
  have h5 : x % n = x.tmod n := by
    conv => lhs; rw [h3]
    rw [Int.add_mul_emod_self_right, Int.emod_eq_of_lt (by omega) (by omega)]
  omega

theorem quo_in (x n : Int) (h : 1 ≤ n) (hx : In64 x) : In64 (x / n) := by
  obtain ⟨h1, h2⟩ := hx
  refine ⟨?_, ?_⟩
  · rw [Int.le_ediv_iff_mul_le (by omega)]
    omega
  · have h3 : x / n < 9223372036854775808 := by
      rw [Int.ediv_lt_iff_lt_mul (by omega)]
      omega
    omega

theorem rem_bd (x n : Int) (h : 1 ≤ n) : 0 ≤ x % n ∧ x % n < n := ⟨Int.emod_nonneg _ (by omega), Int.emod_lt_of_pos _ (by omega)⟩

theorem tq_bd (x n : Int) (h : 1 ≤ n) (hr : x.tmod n < 0) (hx : In64 x) : -9223372036854775808 ≤ x.tdiv n - 1 ∧ x.tdiv n ≤ 9223372036854775807 := by
  have hx0 : x < 0 := by
    rcases Int.lt_or_le x 0 with h | h
    · exact h
    · have := Int.tmod_nonneg n h; omega
  have h5 : x / n < 0 := by rw [Int.ediv_lt_iff_lt_mul (by omega)]; omega
  have h6 := (quo_in x n h hx).1
  rw [(tq_neg x n h hr).1]
  omega

set_option maxHeartbeats 1000000 in
theorem parts_any (x n : Int) (w : World) (hx : In64 x) (hn : In64 n) :
    Calls Try.prog 28 #[.int .i64 x, .int .i64 n] w fun e w' => e = .returned (.tuple #[.int .i64 (quoI x n), .int .i64 (remI x n)]) ∧ Below w.heap.size w w' := by
  by_cases c : n < 1
  · have H := hide (And.intro (quoI_no x n c) (remI_no x n c))
    go_enter Try.func28, Try.ntmps28
    go_wp2
    go_ret2
    exact ⟨ret_ii ⟨(unhide H).1.symm, (unhide H).2.symm⟩, Below.refl _ _⟩
  · have hn1 : 1 ≤ n := by omega
    have n0 : (n == 0) = false := by simp; omega
    have n0' : ¬ n = 0 := by omega
    have H := hide (And.intro (quoI_pos x n hn1) (remI_pos x n hn1))
    have Hq := hide (quo_in x n hn1 hx)
    have Hr := hide (rem_bd x n hn1)
    have hmr1 := Int.tmod_lt_of_pos x (b := n) (by omega)
    have hmr2 := Int.lt_tmod_of_pos x (b := n) (by omega)
    obtain ⟨h1, h2⟩ := hx
    obtain ⟨h3, h4⟩ := hn
    by_cases hr : x.tmod n < 0
    · have T := tq_neg x n hn1 hr
      have H1 := hide T.1
      have H2 := hide T.2
      have hb := (tq_bd x n hn1 hr ⟨h1, h2⟩).1
      have hb' := (tq_bd x n hn1 hr ⟨h1, h2⟩).2
      clear T
      have HV := hide (show x.tdiv n - 1 = quoI x n ∧ x.tmod n + n = remI x n by rw [(unhide H).1, (unhide H).2, unhide H1, unhide H2]; omega)
      go_enter Try.func28, Try.ntmps28
      go_wp2
      go_region
      go_wp2
      go_ret2
      exact ⟨ret_ii ⟨(unhide HV).1, (unhide HV).2⟩, (Below.refl _ w).drew⟩
    · have T := tq_pos x n hn1 hr
      have hb := quo_in x n hn1 ⟨h1, h2⟩
      rw [← T.1] at hb
      obtain ⟨hb1, hb2⟩ := hb
      have HV := hide (show x.tdiv n = quoI x n ∧ x.tmod n = remI x n by rw [(unhide H).1, (unhide H).2]; exact T)
      clear T
      go_enter Try.func28, Try.ntmps28
      go_wp2
      go_region
      go_wp2
      go_ret2
      exact ⟨ret_ii ⟨(unhide HV).1, (unhide HV).2⟩, (Below.refl _ w).drew⟩

theorem row_came (a : Option Addr) (len cap : Nat) (zs : List Int) (w : World) (h : IsRow .i64 w a len cap zs) :
    ∃ xs : List Int, xs.length ≤ 40 ∧ xs.length = min len 40 ∧ len ≤ 9223372036854775807 ∧ Lies w a xs ∧ Small xs := by
  rcases h with ⟨rfl, rfl, rfl, rfl⟩ | ⟨x, rfl, hl, hm, hz, hcell, hwz⟩
  · exact ⟨[], by simp, by simp, by omega, .inl rfl, by intro x hx; simp at hx⟩
  · unfold maxLen at hm
    refine ⟨zs.take (min len 40), ?_, ?_, by omega, lies_of_row (min len 40) (by omega) hcell, small_take (min len 40) hwz⟩
    · rw [List.length_take]; omega
    · rw [List.length_take]; omega

set_option maxHeartbeats 1000000 in
theorem rquot_any (x n : Int) (w : World) (hx : In64 x) (hn1 : 1 ≤ n) (hn2 : n ≤ 9223372036854775807) :
    Calls Try.prog 24 #[.int .i64 x, .int .i64 n] w fun e w' => e = .returned (.int .i64 (x / n)) ∧ w' = w := by
  have n0 : (n == 0) = false := by simp; omega
  have n0' : ¬ n = 0 := by omega
  have hx' := hx
  obtain ⟨h1, h2⟩ := hx
  by_cases hr : x.tmod n < 0
  · have T := tq_neg x n hn1 hr
    have HV := hide (show x.tdiv n - 1 = x / n by omega)
    have hb := tq_bd x n hn1 hr hx'
    obtain ⟨hb1, hb2⟩ := hb
    clear T
    go_enter Try.func24, Try.ntmps24
    go_wp2
    go_ret
    exact ⟨ret_int (unhide HV), rfl⟩
  · have T := tq_pos x n hn1 hr
    have HV := hide T.1
    have hb := quo_in x n hn1 hx'
    rw [← T.1] at hb
    obtain ⟨hb1, hb2⟩ := hb
    clear T
    go_enter Try.func24, Try.ntmps24
    go_wp2
    go_ret
    exact ⟨ret_int (unhide HV), rfl⟩

/-- How many binary digits. -/
def bl (x : Nat) : Nat := if x = 0 then 0 else Nat.log2 x + 1

theorem bl_zero : bl 0 = 0 := rfl

theorem bl_lt (x : Nat) : x < 2 ^ bl x := by
  unfold bl
  split
  · rename_i h; rw [h]; decide
  · exact Nat.lt_log2_self

theorem bl_ge (x : Nat) (h : x ≠ 0) : 2 ^ (bl x - 1) ≤ x ∧ 1 ≤ bl x := by
  unfold bl
  rw [if_neg h]
  exact ⟨Nat.log2_self_le h, by omega⟩

theorem bl_eq (x b : Nat) (h1 : 2 ^ b ≤ x) (h2 : x < 2 ^ (b + 1)) : bl x = b + 1 := by
  have h0 : x ≠ 0 := by have := Nat.two_pow_pos b; omega
  obtain ⟨h3, h4⟩ := bl_ge x h0
  have h5 := bl_lt x
  have h6 : ¬ bl x < b + 1 := fun h => by
    have := Nat.pow_le_pow_right (n := 2) (by decide) (show bl x ≤ b by omega)
    omega
  have h7 : ¬ b + 1 < bl x := fun h => by
    have := Nat.pow_le_pow_right (n := 2) (by decide) (show b + 1 ≤ bl x - 1 by omega)
    omega
  omega

theorem bl_le (x b : Nat) (h : x < 2 ^ b) : bl x ≤ b := by
  by_cases h0 : x = 0
  · rw [h0, bl_zero]; omega
  · obtain ⟨h3, h4⟩ := bl_ge x h0
    by_cases h5 : b + 1 ≤ bl x
    · have := Nat.pow_le_pow_right (n := 2) (by decide) (show b ≤ bl x - 1 by omega)
      omega
    · omega

theorem bl_half (x : Nat) (h : x ≠ 0) : bl x = bl (x / 2) + 1 := by
  obtain ⟨h3, h4⟩ := bl_ge x h
  have h5 := bl_lt x
  obtain ⟨b, hb⟩ : ∃ b, bl x = b + 1 := ⟨bl x - 1, by omega⟩
  rw [hb] at h3 h5 ⊢
  simp only [Nat.add_sub_cancel] at h3
  rw [Nat.pow_succ] at h5
  cases b with
  | zero =>
    have : x = 1 := by simp at h3 h5; omega
    rw [this]; rfl
  | succ b =>
    rw [bl_eq (x / 2) b (by rw [Nat.pow_succ] at h3; omega) (by omega)]

theorem bl_twice (x : Nat) (h : x ≠ 0) : bl (2 * x) = bl x + 1 := by
  rw [bl_half (2 * x) (by omega), Nat.mul_div_cancel_left _ (by decide)]

/-- x moved so that its highest bit is bit 31. -/
def nrm (x : Nat) : Nat := if bl x ≤ 32 then x * 2 ^ (32 - bl x) else x / 2 ^ (bl x - 32)

theorem nrm_bd (x : Nat) (h : x ≠ 0) : 2147483648 ≤ nrm x ∧ nrm x < 4294967296 := by
  obtain ⟨h3, h4⟩ := bl_ge x h
  have h5 := bl_lt x
  unfold nrm
  generalize bl x = b at *
  split
  · have e1 : (2147483648 : Nat) = 2 ^ (b - 1) * 2 ^ (32 - b) := by
      rw [← Nat.pow_add, show b - 1 + (32 - b) = 31 by omega]
    have e2 : (4294967296 : Nat) = 2 ^ b * 2 ^ (32 - b) := by
      rw [← Nat.pow_add, show b + (32 - b) = 32 by omega]
    have hp := Nat.two_pow_pos (32 - b)
    exact ⟨by rw [e1]; exact Nat.mul_le_mul_right _ h3, by rw [e2]; exact (Nat.mul_lt_mul_right hp).2 h5⟩
  · have e1 : 2147483648 * 2 ^ (b - 32) = 2 ^ (b - 1) := by
      rw [show (2147483648 : Nat) = 2 ^ 31 by decide, ← Nat.pow_add, show 31 + (b - 32) = b - 1 by omega]
    have e2 : 4294967296 * 2 ^ (b - 32) = 2 ^ b := by
      rw [show (4294967296 : Nat) = 2 ^ 32 by decide, ← Nat.pow_add, show 32 + (b - 32) = b by omega]
    have hp := Nat.two_pow_pos (b - 32)
    exact ⟨by rw [Nat.le_div_iff_mul_le hp, e1]; exact h3, by rw [Nat.div_lt_iff_lt_mul hp, e2]; exact h5⟩

theorem nrm_twice (x : Nat) (h : x ≠ 0) : nrm (2 * x) = nrm x := by
  unfold nrm
  rw [bl_twice x h]
  by_cases c : bl x ≤ 31
  · rw [if_pos (by omega), if_pos (by omega), show 32 - bl x = (32 - (bl x + 1)) + 1 by omega, Nat.pow_succ, Nat.mul_comm 2 x, Nat.mul_assoc, Nat.mul_comm 2]
  · by_cases c2 : bl x = 32
    · rw [c2]; simp
    · rw [if_neg (by omega), if_neg (by omega), show bl x + 1 - 32 = (bl x - 32) + 1 by omega, Nat.pow_succ, Nat.mul_comm (2 ^ (bl x - 32)) 2, Nat.mul_div_mul_left _ _ (by decide)]

/-- One digit: the digit, and what m is then. -/
def dg (m : Nat) : Nat := if 4294967296 ≤ m * m / 2147483648 then 1 else 0

def nx (m : Nat) : Nat := if 4294967296 ≤ m * m / 2147483648 then m * m / 2147483648 / 2 else m * m / 2147483648

theorem dg_le (m : Nat) : dg m ≤ 1 := by unfold dg; split <;> omega

theorem sq_bd (m : Nat) (h1 : 2147483648 ≤ m) (h2 : m < 4294967296) : 2147483648 ≤ m * m / 2147483648 ∧ m * m / 2147483648 < 8589934592 := by
  have h3 := Nat.mul_le_mul h1 h1
  have h4 := Nat.mul_le_mul (show m ≤ 4294967295 by omega) (show m ≤ 4294967295 by omega)
  omega

theorem nx_bd (m : Nat) (h1 : 2147483648 ≤ m) (h2 : m < 4294967296) : 2147483648 ≤ nx m ∧ nx m < 4294967296 := by
  have h3 := sq_bd m h1 h2
  unfold nx
  split <;> omega

/-- m behind k digits; the first k digits, as a number. -/
def ms : Nat → Nat → Nat
  | 0, m => m
  | k + 1, m => nx (ms k m)

def digs : Nat → Nat → Nat
  | 0, _ => 0
  | k + 1, m => digs k m * 2 + dg (ms k m)

theorem ms_bd (k m : Nat) (h1 : 2147483648 ≤ m) (h2 : m < 4294967296) : 2147483648 ≤ ms k m ∧ ms k m < 4294967296 := by
  induction k with
  | zero => exact ⟨h1, h2⟩
  | succ k ih => exact nx_bd _ ih.1 ih.2

theorem digs_lt (k m : Nat) : digs k m < 2 ^ k := by
  induction k with
  | zero => simp [digs]
  | succ k ih =>
    have := dg_le (ms k m)
    rw [Nat.pow_succ]
    unfold digs
    omega

/-- The logarithm. -/
def logN (x : Nat) : Nat := if x = 0 then 0 else 256 * (bl x - 1) + digs 8 (nrm x)

theorem logN_pos (x : Nat) (h : x ≠ 0) : logN x = 256 * (bl x - 1) + digs 8 (nrm x) := by unfold logN; rw [if_neg h]

theorem shift_div (x p q : Nat) : x * 2 ^ p / 2 ^ q = if q ≤ p then x * 2 ^ (p - q) else x / 2 ^ (q - p) := by
  split
  · rename_i h
    have e : 2 ^ p = 2 ^ (p - q) * 2 ^ q := by rw [← Nat.pow_add, show p - q + q = p by omega]
    rw [e, ← Nat.mul_assoc, Nat.mul_div_cancel _ (Nat.two_pow_pos _)]
  · rename_i h
    have e : 2 ^ q = 2 ^ (q - p) * 2 ^ p := by rw [← Nat.pow_add, show q - p + p = q by omega]
    rw [e, Nat.mul_div_mul_right _ _ (Nat.two_pow_pos _)]

def U64 (x : Int) : Prop := 0 ≤ x ∧ x ≤ 18446744073709551615

def blI (x : Int) : Int := bl x.toNat

theorem bl_lib (x : Nat) (h : x < 2 ^ 64) : Lib.bitLen x = bl x := by
  induction x using Nat.strongRecOn with
  | _ x ih =>
    by_cases h0 : x = 0
    · rw [h0]; rfl
    · rw [Lib.bitLen_half x h0 h, bl_half x h0, ih (x / 2) (by omega) (by omega)]
      omega

theorem len8_bl (b : Int) (h0 : 0 ≤ b) (h1 : b ≤ 255) : Lib.len8 b = blI b := by
  rw [Lib.len8_of b h0 h1, bl_lib _ (by omega)]; rfl

theorem bl_up (k : Nat) : ∀ x : Nat, 2 ^ k ≤ x → bl x = bl (x / 2 ^ k) + k := by
  induction k with
  | zero => intro x _; simp
  | succ k ih =>
    intro x h
    have e : 2 ^ (k + 1) = 2 * 2 ^ k := by rw [Nat.pow_succ, Nat.mul_comm]
    have p := Nat.two_pow_pos k
    rw [bl_half x (by omega), ih (x / 2) (by omega), Nat.div_div_eq_div_mul, ← e]
    omega

theorem blI_up (k : Nat) (x : Int) (h : ((2 ^ k : Nat) : Int) ≤ x) : blI x = blI (x / ((2 ^ k : Nat) : Int)) + k := by
  obtain ⟨n, rfl⟩ : ∃ n : Nat, x = n := ⟨x.toNat, by have := Nat.two_pow_pos k; omega⟩
  unfold blI
  rw [← Int.natCast_ediv, Int.toNat_natCast, Int.toNat_natCast, bl_up k n (by omega)]
  omega

theorem blI_bd (x : Int) (k : Nat) (h0 : 0 ≤ x) (h : x < ((2 ^ k : Nat) : Int)) : 0 ≤ blI x ∧ blI x ≤ k := by
  unfold blI
  have := bl_le x.toNat k (by omega)
  omega

theorem tab_bl (d : Int) (h0 : 0 ≤ d) (h1 : d < 256) (hp : d.toNat < Lib.len8tab.size) : (((Lib.len8tab[d.toNat]'hp).toNat : Nat) : Int) = blI d := by
  rw [← len8_bl d h0 (by omega)]
  unfold Lib.len8
  rw [ByteArray.getElem?_lt' _ _ hp]
  rfl

theorem len_end (x d c : Int) (k : Nat) (hp : d.toNat < Lib.len8tab.size) (hc : c = k) (hd : d = x / ((2 ^ k : Nat) : Int)) (h0 : 0 ≤ d) (h1 : d < 256) (hk : k ≤ 56) (hx : ((2 ^ k : Nat) : Int) ≤ x) :
    wrap64 (c + wrap64 (((Lib.len8tab[d.toNat]'hp).toNat : Nat) : Int)) = blI x := by
  rw [tab_bl d h0 h1 hp]
  have h2 := blI_bd d 8 h0 h1
  rw [blI_up k x hx, ← hd]
  unfold wrap64
  omega

theorem len_end0 (x : Int) (hp : x.toNat < Lib.len8tab.size) (h0 : 0 ≤ x) (h1 : x < 256) :
    wrap64 (wrap64 (((Lib.len8tab[x.toNat]'hp).toNat : Nat) : Int)) = blI x := by
  rw [tab_bl x h0 h1 hp]
  have h2 := blI_bd x 8 h0 h1
  unfold wrap64
  omega

set_option maxHeartbeats 4000000 in
set_option maxRecDepth 100000 in
theorem len64_any (x : Int) (w : World) (hx : U64 x) :
    Calls Try.prog 29 #[.int .u64 x] w fun e w' => e = .returned (.int .i64 (blI x)) ∧ w' = w := by
  obtain ⟨h0, h1⟩ := hx
  have hsz : ((Lib.len8tab.size : Nat) : Int) = 256 := by rw [Lib.len8tab_size]; rfl
  go_enter Try.func29, Try.ntmps29
  go_wp2
  all_goals go_ret
  · exact ⟨ret_int (len_end x _ 56 56 _ rfl (by omega) (by omega) (by omega) (by decide) (by omega)), rfl⟩
  · exact ⟨ret_int (len_end x _ 48 48 _ rfl (by omega) (by omega) (by omega) (by decide) (by omega)), rfl⟩
  · exact ⟨ret_int (len_end x _ 40 40 _ rfl (by omega) (by omega) (by omega) (by decide) (by omega)), rfl⟩
  · exact ⟨ret_int (len_end x _ 32 32 _ rfl (by omega) (by omega) (by omega) (by decide) (by omega)), rfl⟩
  · exact ⟨ret_int (len_end x _ 24 24 _ rfl (by omega) (by omega) (by omega) (by decide) (by omega)), rfl⟩
  · exact ⟨ret_int (len_end x _ 16 16 _ rfl (by omega) (by omega) (by omega) (by decide) (by omega)), rfl⟩
  · exact ⟨ret_int (len_end x _ 8 8 _ rfl (by omega) (by omega) (by omega) (by decide) (by omega)), rfl⟩
  · exact ⟨ret_int (len_end0 x _ (by omega) (by omega)), rfl⟩

theorem blI_64 (x : Int) (hx : U64 x) : 0 ≤ blI x ∧ blI x ≤ 64 := blI_bd x 64 hx.1 (by have := hx.2; omega)

theorem zeros_any (x : Int) (w : World) (hx : U64 x) :
    Calls Try.prog 30 #[.int .u64 x] w fun e w' => e = .returned (.int .i64 (64 - blI x)) ∧ w' = w := by
  obtain ⟨b0, b1⟩ := blI_64 x hx
  go_enter Try.func30, Try.ntmps30
  go_wp2_with fail
  refine (len64_any x _ hx).mono ?_
  rintro e w' ⟨rfl, rfl⟩
  go_wp2
  go_ret
  exact ⟨rfl, rfl⟩

theorem bits_any (x : Int) (w : World) (hx : U64 x) :
    Calls Try.prog 25 #[.int .u64 x] w fun e w' => e = .returned (.int .i64 (blI x)) ∧ w' = w := by
  go_enter Try.func25, Try.ntmps25
  go_wp2_with fail
  refine (len64_any x _ hx).mono ?_
  rintro e w' ⟨rfl, rfl⟩
  go_wp2
  go_ret
  exact ⟨rfl, rfl⟩

theorem blI_half (x : Int) (h : 0 < x) : blI x = blI (x / 2) + 1 := by
  unfold blI
  rw [bl_half x.toNat (by omega), show (x / 2).toNat = x.toNat / 2 by omega]
  omega

theorem blI_zero : blI 0 = 0 := rfl

set_option maxHeartbeats 1000000 in
theorem rbits_any (x : Int) (w : World) (hx : U64 x) :
    Calls Try.prog 27 #[.int .u64 x] w fun e w' => e = .returned (.int .i64 (blI x)) ∧ w' = w := by
  obtain ⟨h0, h1⟩ := hx
  obtain ⟨b0, b1⟩ := blI_64 x ⟨h0, h1⟩
  go_enter Try.func27, Try.ntmps27
  go_wp2
  go_loopw [0, 3] (fun y n wr => ∃ Y n0 : Int, 0 ≤ Y ∧ Y ≤ 18446744073709551615 ∧ y = .int .u64 Y ∧ n = .int .i64 n0 ∧ 0 ≤ n0 ∧ n0 + blI Y = blI x ∧ wr = w) (fun y _ _ => (intOf y).toNat)
  case atStart => exact ⟨x, 0, h0, h1, rfl, rfl, by omega, by omega, rfl⟩
  case round =>
    obtain ⟨Y, n0, hY0, hY1, rfl, rfl, hn0, hsum, rfl⟩ := hrel
    by_cases hlt : 0 < Y
    · have hs := blI_half Y hlt
      have hb := blI_64 (Y / 2) ⟨by omega, by omega⟩
      have hq : 0 ≤ Y / 2 ∧ Y / 2 < Y ∧ Y / 2 ≤ 18446744073709551615 := by omega
      have hn : n0 + 1 + blI (Y / 2) = blI x := by omega
      have hn2 : n0 + 1 ≤ 64 := by omega
      have HN := hide hn
      have HQ := hide hq
      clear hs hb hsum hn hq
      go_wp2
      go_roundw
      case rel => exact ⟨_, _, (unhide HQ).1, (unhide HQ).2.2, rfl, rfl, by omega, unhide HN, trivial⟩
      case measure => have := unhide HQ; simp [intOf]; omega
    · have e : Y = 0 := by omega
      subst e
      rw [blI_zero] at hsum
      have e : blI x = n0 := by omega
      rw [e]
      go_wp2
      go_ret
      exact ⟨rfl, rfl⟩

def nrmI (x : Int) : Int := nrm x.toNat

def logI (x : Int) : Int := logN x.toNat

theorem blI_pos (x : Int) (h : 0 < x) : 1 ≤ blI x := by
  have := (bl_ge x.toNat (by omega)).2
  unfold blI; omega

theorem nrm_moved (x : Nat) (h0 : x ≠ 0) (h1 : x < 18446744073709551616) : x * 2 ^ (64 - bl x) % 18446744073709551616 / 4294967296 = nrm x := by
  have hb := bl_le x 64 h1
  have h2 := bl_lt x
  have h3 := (bl_ge x h0).2
  have e : 2 ^ bl x * 2 ^ (64 - bl x) = 18446744073709551616 := by rw [← Nat.pow_add, show bl x + (64 - bl x) = 64 by omega]
  have h4 := (Nat.mul_lt_mul_right (Nat.two_pow_pos (64 - bl x))).2 h2
  rw [Nat.mod_eq_of_lt (by omega), show (4294967296 : Nat) = 2 ^ 32 by decide, shift_div]
  unfold nrm
  by_cases c : bl x ≤ 32
  · rw [if_pos (by omega), if_pos c, show 64 - bl x - 32 = 32 - bl x by omega]
  · rw [if_neg (by omega), if_neg c, show 32 - (64 - bl x) = bl x - 32 by omega]

theorem nrmI_moved (x : Int) (hx : U64 x) (h0 : 0 < x) : IntKind.u64.wrap (x * 2 ^ (64 - blI x).toNat) / 4294967296 = nrmI x := by
  obtain ⟨n, rfl⟩ : ∃ n : Nat, x = n := ⟨x.toNat, by omega⟩
  have h := nrm_moved n (by omega) (by have := hx.2; omega)
  unfold nrmI blI
  rw [Int.toNat_natCast, ← h, IntKind.wrap_u64, show (64 - (bl n : Int)).toNat = 64 - bl n by omega]
  simp

set_option maxHeartbeats 1000000 in
theorem moved_any (x : Int) (w : World) (hx : U64 x) (hp : 0 < x) :
    Calls Try.prog 26 #[.int .u64 x] w fun e w' => e = .returned (.int .u64 (nrmI x)) ∧ w' = w := by
  obtain ⟨b0, b1⟩ := blI_64 x hx
  have b2 := blI_pos x hp
  go_enter Try.func26, Try.ntmps26
  go_wp2_with fail
  refine (zeros_any x _ hx).mono ?_
  rintro e w' ⟨rfl, rfl⟩
  go_wp2
  go_ret
  exact ⟨ret_int (nrmI_moved x hx hp), rfl⟩

theorem i64_or_add (a b k : Nat) (hb : b < 2 ^ k) (hs : 2 ^ k * a + b < 9223372036854775808) : bits .or .i64 ((2 ^ k * a : Nat) : Int) (b : Int) = ((2 ^ k * a + b : Nat) : Int) := by
  have key : (BitVec.ofInt 64 ((2 ^ k * a : Nat) : Int) ||| BitVec.ofInt 64 (b : Int)).toNat = 2 ^ k * a + b := by
    rw [BitVec.toNat_or, BitVec.toNat_ofInt, BitVec.toNat_ofInt, Nat.two_pow_add_eq_or_of_lt hb a]
    congr 1 <;> omega
  show IntKind.i64.wrap ((BitVec.ofInt 64 ((2 ^ k * a : Nat) : Int) ||| BitVec.ofInt 64 (b : Int)).toNat : Nat) = _
  rw [key, IntKind.wrap_i64]
  omega

theorem or_digit (l d : Int) (h0 : 0 ≤ l) (h1 : l < 100000) (hd : d = 0 ∨ d = 1) : bits .or .i64 (l * 2) d = l * 2 + d := by
  obtain ⟨a, rfl⟩ : ∃ a : Nat, l = a := ⟨l.toNat, by omega⟩
  obtain ⟨b, rfl⟩ : ∃ b : Nat, d = b := ⟨d.toNat, by omega⟩
  have := i64_or_add a b 1 (by omega) (by omega)
  rw [show ((2 ^ 1 * a : Nat) : Int) = (a : Int) * 2 by omega] at this
  rw [this]; omega

/-- What the digits' loop keeps: the logarithm's first k digits behind its whole part. -/
def lg (n k : Nat) : Int := ((bl n - 1) * 2 ^ k + digs k (nrm n) : Nat)

def mI (n k : Nat) : Int := ms k (nrm n)

theorem lg_zero (n : Nat) (h : n ≠ 0) : lg n 0 = (bl n : Int) - 1 := by
  have := (bl_ge n h).2
  unfold lg; simp [digs]; omega

theorem lg_last (n : Nat) (h : n ≠ 0) : lg n 8 = logN n := by
  rw [logN_pos n h]
  unfold lg
  rw [Nat.mul_comm]

theorem lg_bd (n k : Nat) (hn : n < 18446744073709551616) (hk : k ≤ 8) : 0 ≤ lg n k ∧ lg n k < 17000 := by
  have h1 := digs_lt k (nrm n)
  have h2 := bl_le n 64 hn
  have h3 := Nat.pow_le_pow_right (n := 2) (by decide) hk
  have h4 : (bl n - 1) * 2 ^ k ≤ 63 * 2 ^ 8 := Nat.mul_le_mul (by omega) h3
  unfold lg
  omega

theorem mI_bd (n k : Nat) (h : n ≠ 0) : 2147483648 ≤ mI n k ∧ mI n k < 4294967296 := by
  have h1 := nrm_bd n h
  have h2 := ms_bd k _ h1.1 h1.2
  unfold mI; omega

theorem lg_step (n k : Nat) (h : n ≠ 0) :
    (4294967296 ≤ mI n k * mI n k / 2147483648 ∧ mI n (k + 1) = mI n k * mI n k / 2147483648 / 2 ∧ lg n (k + 1) = lg n k * 2 + 1) ∨
    (mI n k * mI n k / 2147483648 < 4294967296 ∧ mI n (k + 1) = mI n k * mI n k / 2147483648 ∧ lg n (k + 1) = lg n k * 2 + 0) := by
  have e1 : lg n (k + 1) = lg n k * 2 + (dg (ms k (nrm n)) : Nat) := by
    unfold lg
    rw [show digs (k + 1) (nrm n) = digs k (nrm n) * 2 + dg (ms k (nrm n)) from rfl, Nat.pow_succ, ← Nat.mul_assoc]
    omega
  have e2 : mI n (k + 1) = (nx (ms k (nrm n)) : Nat) := rfl
  have e3 : mI n k = (ms k (nrm n) : Nat) := rfl
  rw [e1, e2, e3]
  generalize ms k (nrm n) = m
  have e4 : (m : Int) * (m : Int) / 2147483648 = ((m * m / 2147483648 : Nat) : Int) := by
    rw [Int.natCast_ediv, Int.natCast_mul]; rfl
  rw [e4]
  unfold dg nx
  split
  · left; omega
  · right; omega

set_option maxHeartbeats 4000000 in
theorem log_any (x : Int) (w : World) (hx : U64 x) :
    Calls Try.prog 19 #[.int .u64 x] w fun e w' => e = .returned (.int .i64 (logI x)) ∧ w' = w := by
  obtain ⟨h0, h1⟩ := hx
  by_cases hz : x = 0
  · subst hz
    go_enter Try.func19, Try.ntmps19
    go_wp2
    go_ret
    exact ⟨rfl, rfl⟩
  · obtain ⟨n, rfl⟩ : ∃ n : Nat, x = n := ⟨x.toNat, by omega⟩
    have hn : n ≠ 0 := by omega
    have hn1 : n < 18446744073709551616 := by omega
    have hb := blI_64 n ⟨h0, h1⟩
    have HB := hide (show blI n - 1 = lg n 0 by rw [lg_zero n hn]; rfl)
    have HM := hide (show nrmI n = mI n 0 from rfl)
    have HL := hide (show lg n 8 = logI n from lg_last n hn)
    have hz' : ¬ ((n : Int) = 0) := by omega
    go_enter Try.func19, Try.ntmps19
    go_wp2_with fail
    refine (bits_any n _ ⟨h0, h1⟩).mono ?_
    rintro e w1 ⟨rfl, rfl⟩
    go_wp2_with fail
    refine (moved_any n _ ⟨h0, h1⟩ (by omega)).mono ?_
    rintro e w2 ⟨rfl, rfl⟩
    go_wp2
    go_loopw [3, 4, 13] (fun l m i wr => ∃ k : Nat, k ≤ 8 ∧ i = .int .i64 k ∧ m = .int .u64 (mI n k) ∧ l = .int .i64 (lg n k) ∧ wr = w2) (fun _ _ i _ => 8 - (intOf i).toNat)
    case atStart => exact ⟨0, by omega, rfl, by rw [← unhide HM], by rw [← unhide HB], rfl⟩
    case round =>
      obtain ⟨k, hk, rfl, rfl, rfl, rfl⟩ := hrel
      by_cases hlt : k < 8
      · obtain ⟨m1, m2⟩ := mI_bd n k hn
        obtain ⟨l1, l2⟩ := lg_bd n k hn1 hk
        have hstep := lg_step n k hn
        have hlt' : (k : Int) < 8 := by omega
        generalize hMM : mI n k = M at *
        generalize hLL : lg n k = L at *
        have q1 : 2147483648 * 2147483648 ≤ M * M := Int.mul_le_mul m1 m1 (by decide) (by omega)
        have q2 : M * M ≤ 4294967295 * 4294967295 := Int.mul_le_mul (by omega) (by omega) (by omega) (by decide)
        rcases hstep with ⟨c1, c2, c3⟩ | ⟨c1, c2, c3⟩
        · have hd : M * M / 2147483648 / 4294967296 = 1 := by omega
          have H2 := hide c2
          have H3 := hide c3
          have HO := hide (or_digit L 1 l1 (by omega) (.inr rfl))
          clear c2 c3 hb
          go_wp2
          rw [unhide HO]
          go_roundw
          case rel => exact ⟨k + 1, by omega, by go_num, by rw [unhide H2], by rw [unhide H3], trivial⟩
          case measure => simp [intOf]; omega
        · have hd : M * M / 2147483648 / 4294967296 = 0 := by omega
          have H2 := hide c2
          have H3 := hide c3
          have HO := hide (or_digit L 0 l1 (by omega) (.inl rfl))
          clear c2 c3 hb
          go_wp2
          rw [unhide HO]
          go_roundw
          case rel => exact ⟨k + 1, by omega, by go_num, by rw [unhide H2], by rw [unhide H3], trivial⟩
          case measure => simp [intOf]; omega
      · have e : k = 8 := by omega
        subst e
        go_wp2
        go_ret
        exact ⟨ret_int (unhide HL), rfl⟩

theorem nrm_half (y : Nat) (h : 4294967296 ≤ y) : nrm (y / 2) = nrm y := by
  have h1 := bl_half y (by omega)
  have h2 : 33 ≤ bl y := by
    rcases Nat.lt_or_ge (bl y) 33 with c | c
    · have := bl_lt y
      have := Nat.pow_le_pow_right (n := 2) (by decide) (show bl y ≤ 32 by omega)
      omega
    · exact c
  unfold nrm
  rw [if_neg (show ¬ bl y ≤ 32 by omega)]
  by_cases c : bl (y / 2) ≤ 32
  · rw [if_pos c, show 32 - bl (y / 2) = 0 by omega, show bl y - 32 = 1 by omega]
    simp
  · rw [if_neg c, Nat.div_div_eq_div_mul, show bl y - 32 = bl (y / 2) - 32 + 1 by omega, Nat.pow_succ, Nat.mul_comm 2]

theorem nrm_self (y : Nat) (h : 2147483648 ≤ y) (h1 : y < 4294967296) : nrm y = y := by
  have := bl_eq y 31 (by omega) (by omega)
  unfold nrm
  rw [this]; simp

def msI (v : Int) (k : Nat) : Int := ms k v.toNat

def dgI (v : Int) (k : Nat) : Int := digs k v.toNat

theorem msI_bd (v : Int) (k : Nat) (h0 : 2147483648 ≤ v) (h1 : v < 4294967296) : 2147483648 ≤ msI v k ∧ msI v k < 4294967296 := by
  have := ms_bd k v.toNat (by omega) (by omega)
  unfold msI; omega

theorem dgI_bd (v : Int) (k : Nat) (hk : k ≤ 8) : 0 ≤ dgI v k ∧ dgI v k < 256 := by
  have l1 := digs_lt k v.toNat
  have l2 := Nat.pow_le_pow_right (n := 2) (by decide) hk
  unfold dgI; omega

theorem dgI_step (v : Int) (k : Nat) :
    (4294967296 ≤ msI v k * msI v k / 2147483648 ∧ msI v (k + 1) = msI v k * msI v k / 2147483648 / 2 ∧ dgI v (k + 1) = dgI v k * 2 + 1) ∨
    (msI v k * msI v k / 2147483648 < 4294967296 ∧ msI v (k + 1) = msI v k * msI v k / 2147483648 ∧ dgI v (k + 1) = dgI v k * 2) := by
  have e1 : dgI v (k + 1) = dgI v k * 2 + (dg (ms k v.toNat) : Nat) := by
    unfold dgI
    rw [show digs (k + 1) v.toNat = digs k v.toNat * 2 + dg (ms k v.toNat) from rfl]
    omega
  have e2 : msI v (k + 1) = (nx (ms k v.toNat) : Nat) := rfl
  have e3 : msI v k = (ms k v.toNat : Nat) := rfl
  rw [e1, e2, e3]
  generalize ms k v.toNat = m
  have e4 : (m : Int) * (m : Int) / 2147483648 = ((m * m / 2147483648 : Nat) : Int) := by
    rw [Int.natCast_ediv, Int.natCast_mul]; rfl
  rw [e4]
  unfold dg nx
  split
  · left; omega
  · right; omega

set_option maxRecDepth 100000 in
set_option maxHeartbeats 4000000 in
theorem rlog_any (x : Int) (w : World) (hx : U64 x) :
    Calls Try.prog 20 #[.int .u64 x] w fun e w' => e = .returned (.int .i64 (logI x)) ∧ w' = w := by
  obtain ⟨h0, h1⟩ := hx
  by_cases hz : x = 0
  · subst hz
    go_enter Try.func20, Try.ntmps20
    go_wp2
    go_ret
    exact ⟨rfl, rfl⟩
  · obtain ⟨n, rfl⟩ : ∃ n : Nat, x = n := ⟨x.toNat, by omega⟩
    have hn : n ≠ 0 := by omega
    have hn1 : n < 18446744073709551616 := by omega
    obtain ⟨hb1, hb2⟩ := blI_64 n ⟨h0, h1⟩
    have hz' : ¬ ((n : Int) = 0) := by omega
    have HL := hide (show 256 * (blI n - 1) + ((digs 8 (nrm n) : Nat) : Int) = logI n by
      have := (bl_ge n hn).2
      unfold logI blI; rw [Int.toNat_natCast, logN_pos n hn]; omega)
    have HR := hide (nrm_bd n hn)
    go_enter Try.func20, Try.ntmps20
    go_wp2_with fail
    refine (rbits_any n _ ⟨h0, h1⟩).mono ?_
    rintro e w1 ⟨rfl, rfl⟩
    generalize hR : nrm n = R at *
    have hR' := hide hR
    clear hR
    go_wp2
    go_loopw [4] (fun m wr => ∃ Y : Int, m = .int .u64 Y ∧ 0 < Y ∧ Y ≤ 18446744073709551615 ∧ Hid (nrm Y.toNat = R) ∧ wr = w1) (fun m _ => (2147483648 - intOf m).toNat)
    case atStart => exact ⟨n, rfl, by omega, h1, hR', rfl⟩
    case round =>
      obtain ⟨Y, rfl, hY0, hY1, hY2, rfl⟩ := hrel
      by_cases hlt : Y < 2147483648
      · have H2 := hide (show nrm (Y * 2).toNat = R by
          rw [show (Y * 2).toNat = 2 * Y.toNat by omega, nrm_twice Y.toNat (by omega)]; exact unhide hY2)
        go_wp2
        go_roundw
        case rel => exact ⟨Y * 2, rfl, by omega, by omega, H2, trivial⟩
        case measure => simp [intOf]; omega
      · obtain ⟨w2, rfl⟩ : ∃ w2, w2 = wr := ⟨_, rfl⟩
        have hlt' : 2147483648 ≤ Y := by omega
        clear hlt hz hY0
        go_wp2
        go_loopw [4] (fun m wr => ∃ Y : Int, m = .int .u64 Y ∧ 2147483648 ≤ Y ∧ Y ≤ 18446744073709551615 ∧ Hid (nrm Y.toNat = R) ∧ wr = w2) (fun m _ => (intOf m).toNat)
        case atStart => exact ⟨Y, rfl, by omega, hY1, hY2, rfl⟩
        case round =>
          clear hY1 hY2 hlt'
          obtain ⟨V, rfl, hV0, hV1, hV2, rfl⟩ := hrel
          by_cases hlt : 4294967296 ≤ V
          · have H2 := hide (show nrm (V / 2).toNat = R by
              rw [show (V / 2).toNat = V.toNat / 2 by omega, nrm_half V.toNat (by omega)]; exact unhide hV2)
            go_wp2
            go_roundw
            case rel => exact ⟨V / 2, rfl, by omega, by omega, H2, trivial⟩
            case measure => simp [intOf]; omega
          · have HE := hide (show R = V.toNat by rw [← unhide hV2]; exact nrm_self V.toNat (by omega) (by omega))
            rw [show R = V.toNat from unhide HE] at HL
            clear hV2 hR' HR
            have hlt' : V < 4294967296 := by omega
            clear hlt hV1
            obtain ⟨w3, rfl⟩ : ∃ w3, w3 = wr := ⟨_, rfl⟩
            go_wp2
            go_loopw [4, 5, 6] (fun m d i wr => ∃ k : Nat, k ≤ 8 ∧ i = .int .i64 k ∧ m = .int .u64 (msI V k) ∧ d = .int .i64 (dgI V k) ∧ wr = w3) (fun _ _ i _ => 8 - (intOf i).toNat)
            case atStart => exact ⟨0, by omega, rfl, by rw [show msI V 0 = V by unfold msI ms; omega], rfl, rfl⟩
            case round =>
              obtain ⟨k, hk, rfl, rfl, rfl, rfl⟩ := hrel
              by_cases hl8 : k < 8
              · have hl8' : (k : Int) < 8 := by omega
                obtain ⟨m1, m2⟩ := msI_bd V k hV0 hlt'
                obtain ⟨l1, l2⟩ := dgI_bd V k hk
                have hstep := dgI_step V k
                generalize hMM : msI V k = M at *
                generalize hLL : dgI V k = L at *
                clear hMM hLL
                have q1 : 2147483648 * 2147483648 ≤ M * M := Int.mul_le_mul m1 m1 (by decide) (by omega)
                have q2 : M * M ≤ 4294967295 * 4294967295 := Int.mul_le_mul (by omega) (by omega) (by omega) (by decide)
                rcases hstep with ⟨c1, c2, c3⟩ | ⟨c1, c2, c3⟩
                all_goals
                  have H2 := hide c2
                  have H3 := hide c3
                  clear c2 c3
                  go_wp2
                  go_roundw
                  case rel => exact ⟨k + 1, by omega, by go_num, by rw [unhide H2], by rw [unhide H3], trivial⟩
                  case measure => simp [intOf]; omega
              · have e : k = 8 := by omega
                subst e
                obtain ⟨l3, l4⟩ := dgI_bd V 8 (Nat.le_refl _)
                go_wp2
                go_ret
                exact ⟨ret_int (unhide HL), rfl⟩

theorem append_new (w : World) (o : Obj) (x : Value) (t : TypeId) : ∀ j u, [x][j]? = some u → ((w.alloc o).alloc (.cells #[x] t)).cell? ((⟨w.heap.size + 1, 0, none⟩ : Addr).add j) = some u := by
  have h := cell_one_new (w.alloc o) x t
  rwa [World.size_alloc] at h

/-- The document's Same, of two rows that hold the same numbers. -/
theorem same_any (a b : Option Addr) (cap cap' : Nat) (xs : List Int) (n : Nat) (hn : xs.length = n) (hm : n ≤ 1000000) (w : World) (ha : Lies w a xs) (hb : Lies w b xs) :
    Calls Try.prog 9 #[.slice a n cap, .slice b n cap'] w fun e w' => e = .returned (.bool true) ∧ Below w.heap.size w w' := by
  have HA := hide ha
  have HB := hide hb
  have HN := hide hn
  clear ha hb hn
  go_enter Try.func9, Try.ntmps9
  go_wp2
  go_loopw [5] (fun i wr => ∃ k : Nat, k ≤ n ∧ i = .int .i64 k ∧ Hid (Below w.heap.size w wr))
    (fun i _ => n - (intOf i).toNat)
  case atStart => exact ⟨0, Nat.zero_le _, rfl, Below.refl _ _⟩
  case round =>
    obtain ⟨k, hk, rfl, HBr⟩ := hrel
    by_cases c : k < n
    · obtain ⟨ba, oa, rfl, hlta, hca⟩ : ∃ b off, a = some ⟨b, off, none⟩ ∧ b < w.heap.size ∧ ∀ j, j < xs.length → w.cell? ⟨b, off + j, none⟩ = some (.int .i64 (xs.getD j 0)) := by
        rcases unhide HA with h | h
        · have := unhide HN; subst h; simp at this; omega
        · exact h
      obtain ⟨bb, ob, rfl, hltb, hcb⟩ : ∃ b' off, b = some ⟨b', off, none⟩ ∧ b' < w.heap.size ∧ ∀ j, j < xs.length → w.cell? ⟨b', off + j, none⟩ = some (.int .i64 (xs.getD j 0)) := by
        rcases unhide HB with h | h
        · have := unhide HN; subst h; simp at this; omega
        · exact h
      have hc1 : wr.cell? ⟨ba, oa + k, none⟩ = some (.int .i64 (xs.getD k 0)) := by rw [(unhide HBr).cell (p := ⟨ba, _, none⟩) hlta]; exact hca k (by rw [unhide HN]; exact c)
      have hc2 : wr.cell? ⟨bb, ob + k, none⟩ = some (.int .i64 (xs.getD k 0)) := by rw [(unhide HBr).cell (p := ⟨bb, _, none⟩) hltb]; exact hcb k (by rw [unhide HN]; exact c)
      clear hca hcb HA HB
      generalize xs.getD k 0 = z at hc1 hc2
      go_wp2
      go_region
      all_goals go_wp2
      go_roundw
      case rel => exact ⟨k + 1, by omega, by go_num, (unhide HBr).drew⟩
      case measure => simp [intOf]; omega
    · go_wp2
      go_ret
      exact ⟨rfl, unhide HBr⟩

/-- A row that is not empty: where it lies. -/
theorem Lies.some {w : World} {a : Option Addr} {xs : List Int} (h : Lies w a xs) (h0 : xs ≠ []) :
    ∃ b off, a = some ⟨b, off, none⟩ ∧ b < w.heap.size ∧ ∀ j, j < xs.length → w.cell? ⟨b, off + j, none⟩ = some (.int .i64 (xs.getD j 0)) := by
  rcases h with h | h
  · exact absurd h h0
  · exact h

theorem drewn_below {B : Nat} {a w : World} (h : Below B a w) (n : Nat) : Below B a (w.drewN n) := h.trans ⟨rfl, rfl, rfl, Nat.le_refl _, fun _ _ => rfl⟩

/-- The bytes of a text. -/
def B (s : ByteArray) : List UInt8 := s.data.toList

theorem info_parts {P : Program} {t : TypeId} {z : Value} {s b : Nat} (h : (P.info? t).map (fun i => (i.zero, i.size, i.bytes)) = some (some z, s, b)) :
    ∃ i, P.info? t = some i ∧ i.zero = some z ∧ i.size = s ∧ i.bytes = b := by
  cases hi : P.info? t with
  | none => rw [hi] at h; simp at h
  | some i => rw [hi] at h; simp at h; exact ⟨i, rfl, h.1, h.2.1, h.2.2⟩

/-- All blocks but c are as they were. -/
structure Only (c : Nat) (w w' : World) : Prop where
  os : w'.os = w.os
  tape : w'.tape = w.tape
  output : w'.output = w.output
  size : w.heap.size ≤ w'.heap.size
  block : ∀ k, k < w.heap.size → k ≠ c → w'.heap[k]? = w.heap[k]?

theorem Only.refl (c : Nat) (w : World) : Only c w w := ⟨rfl, rfl, rfl, Nat.le_refl _, fun _ _ _ => rfl⟩

theorem Only.trans {c : Nat} {a b d : World} (h : Only c a b) (k : Only c b d) : Only c a d :=
  ⟨k.os.trans h.os, k.tape.trans h.tape, k.output.trans h.output, Nat.le_trans h.size k.size, fun i hi hc => (k.block i (Nat.lt_of_lt_of_le hi h.size) hc).trans (h.block i hi hc)⟩

theorem Only.of_below {c : Nat} {w w' : World} (h : Below w.heap.size w w') : Only c w w' := ⟨h.os, h.tape, h.output, h.size, fun k hk _ => h.block k hk⟩

theorem Only.alloc {c : Nat} {a w : World} (h : Only c a w) (o : Obj) : Only c a (w.alloc o) := h.trans (Only.of_below ((Below.refl _ w).alloc (Nat.le_refl _) o))

theorem Only.setCell {c : Nat} {a w : World} (h : Only c a w) {p : Addr} (hp : p.block = c) (u : Value) : Only c a (w.setCell p u) :=
  h.trans ⟨rfl, rfl, rfl, by simp [World.setCell], fun k _ hc => Below.heap_setCell _ _ _ _ (by omega)⟩

theorem Only.setNew {c : Nat} {a w : World} (h : Only c a w) {p : Addr} (hp : a.heap.size ≤ p.block) (u : Value) : Only c a (w.setCell p u) :=
  ⟨h.os, h.tape, h.output, by have := h.size; simpa [World.setCell] using this, fun k hk hc => by rw [Below.heap_setCell _ _ _ _ (by omega)]; exact h.block k hk hc⟩

theorem Only.drew {c : Nat} {a w : World} (h : Only c a w) : Only c a w.drew := ⟨h.os, h.tape, h.output, h.size, h.block⟩

theorem Only.below {c B : Nat} {w w' : World} (h : Only c w w') (h1 : B ≤ c) (h2 : B ≤ w.heap.size) : Below B w w' := ⟨h.os, h.tape, h.output, h.size, fun k hk => h.block k (by omega) (by omega)⟩

theorem Only.fresh {w w' : World} {o : Obj} (h : Only w.heap.size (w.alloc o) w') : Below w.heap.size w w' :=
  ((Below.refl _ w).alloc (Nat.le_refl _) o).trans (h.below (Nat.le_refl _) (by simp))

/-- A block of cells of its own. -/
def Cells (w : World) (c : Nat) (l : List Value) : Prop := ∃ t, w.heap[c]? = some (.cells l.toArray t (0, 0))

theorem Cells.lt {w : World} {c : Nat} {l : List Value} (h : Cells w c l) : c < w.heap.size := by
  obtain ⟨t, h⟩ := h
  exact (Array.getElem?_eq_some_iff.1 h).1

theorem Cells.cell {w : World} {c : Nat} {l : List Value} (h : Cells w c l) (i : Nat) (x : Value) (hx : l[i]? = some x) : w.cell? ⟨c, i, none⟩ = some x := by
  obtain ⟨t, h⟩ := h
  unfold World.cell?
  rw [h]
  simpa using hx

theorem Cells.free {w : World} {c : Nat} {l : List Value} (h : Cells w c l) (i : Nat) : w.frozen? ⟨c, i, none⟩ = false := by
  obtain ⟨t, h⟩ := h
  unfold World.frozen?
  rw [h]
  simp

theorem Cells.set {w : World} {c : Nat} {l : List Value} (h : Cells w c l) (i : Nat) (x : Value) : Cells (w.setCell ⟨c, i, none⟩ x) c (l.set i x) := by
  obtain ⟨t, h⟩ := h
  exact ⟨t, by simp [World.setCell, Array.getElem?_modify, h]⟩

theorem Cells.only {w w' : World} {c g : Nat} {l : List Value} (h : Cells w g l) (hb : Only c w w') (hg : g ≠ c) : Cells w' g l := by
  have hl := h.lt
  obtain ⟨t, h⟩ := h
  exact ⟨t, by rw [hb.block g hl hg]; exact h⟩

theorem Cells.below {w w' : World} {g : Nat} {l : List Value} (h : Cells w g l) (hb : Below w.heap.size w w') : Cells w' g l := by
  have hl := h.lt
  obtain ⟨t, h⟩ := h
  exact ⟨t, by rw [hb.block g hl]; exact h⟩

theorem Cells.alloc {w : World} {g : Nat} {l : List Value} (h : Cells w g l) (o : Obj) : Cells (w.alloc o) g l := h.below ((Below.refl _ w).alloc (Nat.le_refl _) o)

theorem Cells.drew {w : World} {g : Nat} {l : List Value} (h : Cells w g l) : Cells w.drew g l := h

theorem Lies.only {w w' : World} {c : Nat} {a : Option Addr} {xs : List Int} (h : Lies w a xs) (ho : Only c w w') (hne : xs ≠ [] → ∀ p, a = Option.some p → p.block ≠ c) : Lies w' a xs := by
  rcases h with h | ⟨b, off, rfl, hb, hc⟩
  · exact .inl h
  · refine .inr ⟨b, off, rfl, Nat.lt_of_lt_of_le hb ho.size, fun j hj => ?_⟩
    have : w'.cell? ⟨b, off + j, none⟩ = w.cell? ⟨b, off + j, none⟩ := World.cell?_of_block (ho.block b hb (hne (by rintro rfl; simp at hj) _ rfl))
    rw [this]
    exact hc j hj

theorem Lies.ne {w : World} {c : Nat} {a : Option Addr} {xs : List Int} (h : Lies w a xs) (hc : w.heap.size ≤ c) : xs ≠ [] → ∀ p, a = Option.some p → p.block ≠ c := by
  intro h0 p hp
  rcases h with h | ⟨b, off, rfl, hb, _⟩
  · exact absurd h h0
  · cases hp
    show b ≠ c
    omega

theorem below_drewN (w : World) (n : Nat) : Below w.heap.size w (w.drewN n) := ⟨rfl, rfl, rfl, Nat.le_refl _, fun _ _ => rfl⟩

/-- All blocks but c and g are as they were. -/
structure Two (c g : Nat) (w w' : World) : Prop where
  os : w'.os = w.os
  tape : w'.tape = w.tape
  output : w'.output = w.output
  size : w.heap.size ≤ w'.heap.size
  block : ∀ k, k < w.heap.size → k ≠ c → k ≠ g → w'.heap[k]? = w.heap[k]?

theorem Two.refl (c g : Nat) (w : World) : Two c g w w := ⟨rfl, rfl, rfl, Nat.le_refl _, fun _ _ _ _ => rfl⟩

theorem Two.trans {c g : Nat} {a b d : World} (h : Two c g a b) (k : Two c g b d) : Two c g a d :=
  ⟨k.os.trans h.os, k.tape.trans h.tape, k.output.trans h.output, Nat.le_trans h.size k.size, fun i hi hc hg => (k.block i (Nat.lt_of_lt_of_le hi h.size) hc hg).trans (h.block i hi hc hg)⟩

theorem Two.of_below {c g : Nat} {w w' : World} (h : Below w.heap.size w w') : Two c g w w' := ⟨h.os, h.tape, h.output, h.size, fun k hk _ _ => h.block k hk⟩

theorem Two.of_left {c g : Nat} {w w' : World} (h : Only c w w') : Two c g w w' := ⟨h.os, h.tape, h.output, h.size, fun k hk hc _ => h.block k hk hc⟩

theorem Two.of_right {c g : Nat} {w w' : World} (h : Only g w w') : Two c g w w' := ⟨h.os, h.tape, h.output, h.size, fun k hk _ hg => h.block k hk hg⟩

theorem Two.below {c g B : Nat} {w w' : World} (h : Two c g w w') (h1 : B ≤ c) (h2 : B ≤ g) (h3 : B ≤ w.heap.size) : Below B w w' := ⟨h.os, h.tape, h.output, h.size, fun k hk => h.block k (by omega) (by omega) (by omega)⟩

theorem Only.setHere {c : Nat} {w : World} (i : Nat) (u : Value) : Only c w (w.setCell ⟨c, i, none⟩ u) := (Only.refl c w).setCell rfl u

theorem Cells.two {w w' : World} {c g k : Nat} {l : List Value} (h : Cells w k l) (hb : Two c g w w') (hc : k ≠ c) (hg : k ≠ g) : Cells w' k l := by
  have hl := h.lt
  obtain ⟨t, h⟩ := h
  exact ⟨t, by rw [hb.block k hl hc hg]; exact h⟩

theorem own_cells {w : World} {base n g : Nat} {xs : List Value} (h : w.ownsRow base 3 1 (.slice (some ⟨g, 0, none⟩) n n) n xs) : Cells w g xs := by
  rcases h.2 with ⟨h', _⟩ | ⟨g', cap, cur, h1, h2, h3, h4, h5, h6, h7⟩
  · cases h'
  · cases h1
    refine ⟨3, ?_⟩
    rw [h3, ← h7, List.take_of_length_le (by simp [h6])]

theorem Cells.inj {w : World} {c : Nat} {l m : List Value} (h : Cells w c l) (k : Cells w c m) : l = m := by
  obtain ⟨t, h⟩ := h
  obtain ⟨t', k⟩ := k
  rw [h] at k
  have := k
  simp at this
  exact this.1

/-- Numbers as cells. -/
def ints (L : List Int) : List Value := L.map (Value.int .i64)

theorem ints_at (L : List Int) (i : Nat) (h : i < L.length) : (ints L)[i]? = some (.int .i64 (L.getD i 0)) := by
  simp [ints, List.getD_eq_getElem?_getD, List.getElem?_eq_getElem h]

theorem ints_set (L : List Int) (i : Nat) (x : Int) : (ints L).set i (.int .i64 x) = ints (L.set i x) := by simp [ints, List.map_set]

theorem ints_zero (n : Nat) : (madeCells #[.int .i64 0] n).toList = ints (List.replicate n 0) := by
  rw [toList_madeCells_one]
  simp [ints]

theorem Cells.lies {w : World} {g : Nat} {L : List Int} (h : Cells w g (ints L)) : Lies w (some ⟨g, 0, none⟩) L := by
  refine .inr ⟨g, 0, rfl, h.lt, fun j hj => ?_⟩
  rw [Nat.zero_add]
  exact h.cell j _ (ints_at L j hj)

theorem ints_snoc (L : List Int) (x : Int) : ints (L ++ [x]) = ints L ++ [Value.int .i64 x] := by simp [ints]

theorem Lies.under {w w' : World} {B : Nat} {a : Option Addr} {xs : List Int} (h : Lies w a xs) (hb : Below B w w') (hlt : ∀ p, a = Option.some p → p.block < B) : Lies w' a xs := by
  rcases h with h | ⟨b, off, rfl, hl, hc⟩
  · exact .inl h
  · refine .inr ⟨b, off, rfl, Nat.lt_of_lt_of_le hl hb.size, fun j hj => ?_⟩
    rw [hb.cell (p := ⟨b, off + j, none⟩) (hlt ⟨b, off, none⟩ rfl)]
    exact hc j hj

theorem Cells.under {w w' : World} {B c : Nat} {l : List Value} (h : Cells w c l) (hb : Below B w w') (hlt : c < B) : Cells w' c l := by
  obtain ⟨t, h⟩ := h
  exact ⟨t, by rw [hb.block c hlt]; exact h⟩

set_option maxHeartbeats 2000000 in
/-- Same of two rows as long as each other: it answers. -/
theorem same_may (a b : Option Addr) (cap cap' : Nat) (xs ys : List Int) (n : Nat) (hn : xs.length = n) (hn' : ys.length = n) (hm : n ≤ 1000000) (w : World) (ha : Lies w a xs) (hb : Lies w b ys) :
    Calls Try.prog 9 #[.slice a n cap, .slice b n cap'] w fun e w' => ∃ v : Bool, e = .returned (.bool v) ∧ Below w.heap.size w w' := by
  have HA := hide ha
  have HB := hide hb
  have HN := hide hn
  have HN' := hide hn'
  clear ha hb hn hn'
  go_enter Try.func9, Try.ntmps9
  go_wp2
  go_loopw [5] (fun i wr => ∃ k : Nat, k ≤ n ∧ i = .int .i64 k ∧ Hid (Below w.heap.size w wr))
    (fun i _ => n - (intOf i).toNat)
  case atStart => exact ⟨0, Nat.zero_le _, rfl, Below.refl _ _⟩
  case round =>
    obtain ⟨k, hk, rfl, HBr⟩ := hrel
    by_cases c : k < n
    · obtain ⟨ba, oa, rfl, hlta, hca⟩ := ((unhide HA).below (unhide HBr)).some (by intro e; have := unhide HN; rw [e] at this; simp at this; omega)
      obtain ⟨bb, ob, rfl, hltb, hcb⟩ := ((unhide HB).below (unhide HBr)).some (by intro e; have := unhide HN'; rw [e] at this; simp at this; omega)
      have hc1 := hca k (by rw [unhide HN]; exact c)
      have hc2 := hcb k (by rw [unhide HN']; exact c)
      clear hca hcb HA HB hlta hltb
      generalize xs.getD k 0 = z at hc1
      generalize ys.getD k 0 = y at hc2
      by_cases hzy : z = y
      · subst hzy
        go_wp2
        go_region
        all_goals go_wp2
        go_roundw
        case rel => exact ⟨k + 1, by omega, by go_num, (unhide HBr).drew⟩
        case measure => simp [intOf]; omega
      · go_wp2
        go_region
        all_goals go_wp2
        all_goals (go_ret; exact ⟨_, rfl, (unhide HBr).drew⟩)
    · go_wp2
      go_ret
      exact ⟨_, rfl, unhide HBr⟩

theorem Lies.two {W W' : World} {a : Option Addr} {xs : List Int} {p q : Nat} (h : Lies W a xs) (ht : Two p q W W') (hp : ∀ x, a = Option.some x → x.block ≠ p ∧ x.block ≠ q) : Lies W' a xs := by
  rcases h with h | ⟨b, off, rfl, hb, hc⟩
  · exact .inl h
  · refine .inr ⟨b, off, rfl, Nat.lt_of_lt_of_le hb ht.size, fun j hj => ?_⟩
    have : W'.cell? ⟨b, off + j, none⟩ = W.cell? ⟨b, off + j, none⟩ := World.cell?_of_block (ht.block b hb (hp _ rfl).1 (hp _ rfl).2)
    rw [this]
    exact hc j hj

/-- All blocks but those of X are as they were. -/
structure But (X : Nat → Prop) (w w' : World) : Prop where
  os : w'.os = w.os
  tape : w'.tape = w.tape
  output : w'.output = w.output
  size : w.heap.size ≤ w'.heap.size
  block : ∀ k, k < w.heap.size → ¬ X k → w'.heap[k]? = w.heap[k]?

theorem But.refl (X : Nat → Prop) (w : World) : But X w w := ⟨rfl, rfl, rfl, Nat.le_refl _, fun _ _ _ => rfl⟩

theorem But.trans {X : Nat → Prop} {a b d : World} (h : But X a b) (k : But X b d) : But X a d :=
  ⟨k.os.trans h.os, k.tape.trans h.tape, k.output.trans h.output, Nat.le_trans h.size k.size, fun i hi hX => (k.block i (Nat.lt_of_lt_of_le hi h.size) hX).trans (h.block i hi hX)⟩

theorem But.mono {X Y : Nat → Prop} {w w' : World} (h : But X w w') (hXY : ∀ k, X k → Y k) : But Y w w' := ⟨h.os, h.tape, h.output, h.size, fun k hk hY => h.block k hk (fun hX => hY (hXY k hX))⟩

theorem But.of_below {X : Nat → Prop} {w w' : World} (h : Below w.heap.size w w') : But X w w' := ⟨h.os, h.tape, h.output, h.size, fun k hk _ => h.block k hk⟩

theorem But.of_only {X : Nat → Prop} {c : Nat} {w w' : World} (h : Only c w w') (hc : X c) : But X w w' := ⟨h.os, h.tape, h.output, h.size, fun k hk hX => h.block k hk (fun e => hX (e ▸ hc))⟩

theorem But.of_two {X : Nat → Prop} {c g : Nat} {w w' : World} (h : Two c g w w') (hc : X c) (hg : X g) : But X w w' := ⟨h.os, h.tape, h.output, h.size, fun k hk hX => h.block k hk (fun e => hX (e ▸ hc)) (fun e => hX (e ▸ hg))⟩

theorem But.below {X : Nat → Prop} {B : Nat} {w w' : World} (h : But X w w') (hX : ∀ k, X k → B ≤ k) (hB : B ≤ w.heap.size) : Below B w w' := ⟨h.os, h.tape, h.output, h.size, fun k hk => h.block k (by omega) (fun e => by have := hX k e; omega)⟩

theorem Cells.but {X : Nat → Prop} {w w' : World} {k : Nat} {l : List Value} (h : Cells w k l) (hb : But X w w') (hk : ¬ X k) : Cells w' k l := by
  have hl := h.lt
  obtain ⟨t, h⟩ := h
  exact ⟨t, by rw [hb.block k hl hk]; exact h⟩

theorem Cells.drewN {w : World} {k n : Nat} {l : List Value} (h : Cells w k l) : Cells (w.drewN n) k l := h.below (below_drewN w n)

theorem But.lg_below {B l g : Nat} {w w' : World} (h : But (fun k => k = l ∨ k = g) w w') (h1 : B ≤ l) (h2 : B ≤ g) (h3 : B ≤ w.heap.size) : Below B w w' :=
  h.below (fun k hk => by rcases hk with rfl | rfl <;> assumption) h3

theorem getD_set (L : List Int) (k i : Nat) (x : Int) : (L.set k x).getD i 0 = if k = i ∧ i < L.length then x else L.getD i 0 := by
  simp only [List.getD_eq_getElem?_getD, List.getElem?_set]
  by_cases h : k = i
  · subst h
    by_cases h2 : k < L.length
    · rw [if_pos rfl, if_pos h2, if_pos ⟨rfl, h2⟩]; rfl
    · rw [if_pos rfl, if_neg h2, if_neg (fun h => h2 h.2), List.getElem?_eq_none (by omega)]
  · rw [if_neg h, if_neg (fun h' => h h'.1)]

theorem Lies.but {X : Nat → Prop} {w w' : World} {a : Option Addr} {xs : List Int} (h : Lies w a xs) (hb : But X w w') (hne : xs ≠ [] → ∀ p, a = Option.some p → ¬ X p.block) : Lies w' a xs := by
  rcases h with h | ⟨b, off, rfl, hl, hc⟩
  · exact .inl h
  · refine .inr ⟨b, off, rfl, Nat.lt_of_lt_of_le hl hb.size, fun j hj => ?_⟩
    have : w'.cell? ⟨b, off + j, none⟩ = w.cell? ⟨b, off + j, none⟩ := World.cell?_of_block (hb.block b hl (hne (by rintro rfl; simp at hj) _ rfl))
    rw [this]
    exact hc j hj

def mkL (n : Nat) (f : Nat → Int) : List Int := (List.range n).map f

theorem mkL_len (n : Nat) (f : Nat → Int) : (mkL n f).length = n := by simp [mkL]

theorem mkL_at (n : Nat) (f : Nat → Int) (i : Nat) (h : i < n) : (mkL n f).getD i 0 = f i := by simp [mkL, List.getD_eq_getElem?_getD, h]

theorem getD_over (L : List Int) (i : Nat) (h : L.length ≤ i) : L.getD i 0 = 0 := by simp [List.getD_eq_getElem?_getD, List.getElem?_eq_none h]

theorem list_same {L M : List Int} (h : L.length = M.length) (hi : ∀ i, i < L.length → L.getD i 0 = M.getD i 0) : L = M := by
  apply List.ext_getElem h
  intro i h1 h2
  have := hi i h1
  simpa [List.getD_eq_getElem?_getD, List.getElem?_eq_getElem h1, List.getElem?_eq_getElem h2] using this

theorem mkL_eq (L : List Int) (n : Nat) (f : Nat → Int) (hn : L.length = n) (h : ∀ i, i < n → f i = L.getD i 0) : mkL n f = L :=
  list_same (by rw [mkL_len, hn]) fun i hi => by rw [mkL_len] at hi; rw [mkL_at n f i hi, h i hi]

theorem mkL_congr (n : Nat) (f g : Nat → Int) (h : ∀ i, i < n → f i = g i) : mkL n f = mkL n g :=
  list_same (by rw [mkL_len, mkL_len]) fun i hi => by rw [mkL_len] at hi; rw [mkL_at n f i hi, mkL_at n g i hi, h i hi]

theorem Small.all {xs : List Int} (h : Small xs) (k : Nat) : In64 (xs.getD k 0) := by
  by_cases c : k < xs.length
  · exact h.at k c
  · rw [getD_over xs k (by omega)]; constructor <;> decide

/-- Sums of so many. -/
def sumF (f : Nat → Int) : Nat → Int
  | 0 => 0
  | n + 1 => sumF f n + f n

theorem sumF_congr (f g : Nat → Int) : ∀ n, (∀ i, i < n → f i = g i) → sumF f n = sumF g n
  | 0, _ => rfl
  | n + 1, h => by show sumF f n + f n = sumF g n + g n; rw [sumF_congr f g n fun i hi => h i (by omega), h n (by omega)]

theorem sumF_plus (f g : Nat → Int) : ∀ n, sumF (fun i => f i + g i) n = sumF f n + sumF g n
  | 0 => rfl
  | n + 1 => by show sumF (fun i => f i + g i) n + (f n + g n) = sumF f n + f n + (sumF g n + g n); rw [sumF_plus f g n]; omega

theorem new_one (w : World) (v : Value) (t : TypeId) : (w.alloc (.cells #[v] t)).heap[w.heap.size]? = some (.cells #[v] t (0, 0)) := by
  show (w.heap.push _)[w.heap.size]? = _
  simp

/-- A row of rows: where each lies, how much room it has, its numbers. -/
abbrev Rr := Option Addr × Nat × List Int

def rowV (r : Rr) : Value := .slice r.1 r.2.2.length r.2.1

/-- What a call told: a row, in a world in which all that was there is as it was. -/
def Told (xs : List Int) (w : World) (e : Ending) (w' : World) : Prop := ∃ a l c, e = .returned (.slice a l c) ∧ xs.length = l ∧ Lies w' a xs ∧ Below w.heap.size w w'

theorem sumF_mul (c : Int) (f : Nat → Int) : ∀ n, sumF (fun i => c * f i) n = c * sumF f n
  | 0 => by show 0 = c * 0; omega
  | n + 1 => by show sumF (fun i => c * f i) n + c * f n = c * (sumF f n + f n); rw [sumF_mul c f n, Int.mul_add]

theorem sumF_zero : ∀ n, sumF (fun _ => 0) n = 0
  | 0 => rfl
  | n + 1 => by show sumF (fun _ => 0) n + 0 = 0; rw [sumF_zero n]; rfl

theorem sumF_one (f : Nat → Int) (t0 : Nat) : ∀ n, t0 < n → (∀ t, t < n → t ≠ t0 → f t = 0) → sumF f n = f t0
  | n + 1, h, hz => by
    show sumF f n + f n = f t0
    by_cases c : t0 = n
    · subst c; rw [sumF_congr f (fun _ => 0) t0 fun t ht => hz t (by omega) (by omega), sumF_zero]; omega
    · rw [sumF_one f t0 n (by omega) fun t ht => hz t (by omega), hz n (by omega) (by omega)]; omega

theorem sumF_bd (f : Nat → Int) (Bq : Int) : ∀ n, (∀ t, t < n → -Bq ≤ f t ∧ f t ≤ Bq) → -((n : Int) * Bq) ≤ sumF f n ∧ sumF f n ≤ (n : Int) * Bq
  | 0, _ => by show -(0 * Bq) ≤ 0 ∧ (0 : Int) ≤ 0 * Bq; rw [Int.zero_mul]; omega
  | n + 1, h => by
    have h1 := sumF_bd f Bq n fun t ht => h t (by omega)
    have h2 := h n (by omega)
    show -(((n + 1 : Nat) : Int) * Bq) ≤ sumF f n + f n ∧ sumF f n + f n ≤ ((n + 1 : Nat) : Int) * Bq
    rw [show ((n + 1 : Nat) : Int) = (n : Int) + 1 by omega, Int.add_mul, Int.one_mul]; omega

theorem mul_bd (x y : Int) (Bq C : Int) (hB : 0 ≤ Bq) (hC : 0 ≤ C) (hx : -Bq ≤ x ∧ x ≤ Bq) (hy : -C ≤ y ∧ y ≤ C) : -(Bq * C) ≤ x * y ∧ x * y ≤ Bq * C := by
  have h := Int.natAbs_mul x y
  have h1 : x.natAbs ≤ Bq.toNat := by omega
  have h2 : y.natAbs ≤ C.toNat := by omega
  have h3 := Nat.mul_le_mul h1 h2
  have h4 : ((Bq.toNat * C.toNat : Nat) : Int) = Bq * C := by rw [Int.natCast_mul, Int.toNat_of_nonneg hB, Int.toNat_of_nonneg hC]
  omega

theorem alloc_below (w : World) (o : Obj) : Below w.heap.size w (w.alloc o) := (Below.refl _ w).alloc (Nat.le_refl _) o

theorem told_len {xs : List Int} {w w' : World} {e : Ending} (h : Told xs w e w') {n : Nat} (hn : xs.length = n) : ∃ a c, e = .returned (.slice a n c) ∧ Lies w' a xs ∧ Below w.heap.size w w' := by
  obtain ⟨a, l, c, rfl, h1, h2, h3⟩ := h
  exact ⟨a, c, by rw [← h1, hn], h2, h3⟩

theorem Cells.at {w : World} {c : Nat} {l : List Value} (h : Cells w c l) (i : Nat) : w.cell? ⟨c, i, none⟩ = l[i]? := by
  obtain ⟨t, h⟩ := h
  unfold World.cell?
  rw [h]
  simp

/-- A call of a Go function, as a step of a region that draws: by its contract. -/
theorem step_call {P : Program} {ops : Array Oper} {o : Oper} {a : Act} {w : World} {K : Act → World → Prop} {Q : Exit → Act → World → Prop} {E : Prop} (f : FuncId) (args : Array Value)
    (hg : o.guard = none) (hx : (execOp a.eval o).run P w = .ok (.enter f args) w) (h : Calls P f args w fun e w'' => ∃ v, e = .returned v ∧ K (a.put o.dst v) w'') :
    if Region.wanted o (yielded ops a.tmps) = true then Oper.wp P o a w K Q else E := by
  rw [if_pos (by simp [Region.wanted, hg])]
  unfold Oper.wp
  rw [hx]
  show Calls P f args w _
  refine Calls.mono h ?_
  rintro e w'' ⟨v, rfl, hk⟩
  exact hk

def highI (b : Int) : Int := if b < 0 ∨ 64 < b then 0 else logI (64 + 8 * b) - 1536

def hiN (b : Nat) : Int := highI (b : Int)

theorem hi_step : ∀ b, b < 64 → hiN b < hiN (b + 1) := by decide +kernel

theorem hi_bds : ∀ b, b ≤ 64 → 0 ≤ hiN b ∧ hiN b ≤ 1000 := by decide +kernel

theorem hi_zero : hiN 0 = 0 := by decide +kernel

theorem hi_lt {a b : Nat} (h : a < b) (hb : b ≤ 64) : hiN a < hiN b := by
  induction b with
  | zero => omega
  | succ b ih =>
    have := hi_step b (by omega)
    by_cases c : a = b
    · subst c; exact this
    · have := ih (by omega) (by omega); omega

theorem hi_le {a b : Nat} (h : a ≤ b) (hb : b ≤ 64) : hiN a ≤ hiN b := by
  by_cases c : a = b
  · subst c; omega
  · have := hi_lt (show a < b by omega) hb; omega

theorem high_bd (b : Int) : 0 ≤ highI b ∧ highI b ≤ 1000 := by
  by_cases c : b < 0 ∨ 64 < b
  · unfold highI; rw [if_pos c]; omega
  · have := hi_bds b.toNat (by omega)
    unfold hiN at this
    rwa [Int.toNat_of_nonneg (by omega)] at this

/-- The first one from b on, of f at most, that is so. -/
def firstN (P : Nat → Bool) : Nat → Nat → Nat
  | 0, b => b
  | f + 1, b => if P b then b else firstN P f (b + 1)

theorem first_spec (P : Nat → Bool) : ∀ f b, P (b + f) = true → b ≤ firstN P f b ∧ firstN P f b ≤ b + f ∧ P (firstN P f b) = true ∧ ∀ c, b ≤ c → c < firstN P f b → P c = false
  | 0, b, h => ⟨Nat.le_refl _, Nat.le_refl _, h, fun c h1 h2 => by show P c = false; unfold firstN at h2; omega⟩
  | f + 1, b, h => by
    unfold firstN
    by_cases c : P b = true
    · rw [if_pos c]; exact ⟨Nat.le_refl _, by omega, c, fun c h1 h2 => by omega⟩
    · rw [if_neg c]
      obtain ⟨h1, h2, h3, h4⟩ := first_spec P f (b + 1) (by rw [show b + 1 + f = b + (f + 1) by omega]; exact h)
      refine ⟨by omega, by omega, h3, fun d hd1 hd2 => ?_⟩
      by_cases e : d = b
      · subst e; simpa using c
      · exact h4 d (by omega) hd2

def edgeN (n M m : Nat) : Nat := firstN (fun b => decide ((m : Int) * hiN (n - 1) ≤ hiN b * ((M : Int) + 1))) (n - 1) 0

theorem edge_spec (n M m : Nat) (h2 : 2 ≤ n) (h65 : n ≤ 65) (hm : m ≤ M + 1) :
    edgeN n M m ≤ n - 1 ∧ (m : Int) * hiN (n - 1) ≤ hiN (edgeN n M m) * ((M : Int) + 1) ∧ ∀ b, b < edgeN n M m → hiN b * ((M : Int) + 1) < (m : Int) * hiN (n - 1) := by
  have h0 := (hi_bds (n - 1) (by omega)).1
  have htop : (m : Int) * hiN (n - 1) ≤ hiN (n - 1) * ((M : Int) + 1) := by
    rw [Int.mul_comm (hiN (n - 1))]; exact Int.mul_le_mul_of_nonneg_right (by omega) h0
  obtain ⟨_, h4, h5, h6⟩ := first_spec (fun b => decide ((m : Int) * hiN (n - 1) ≤ hiN b * ((M : Int) + 1))) (n - 1) 0 (by simpa using htop)
  refine ⟨by unfold edgeN; omega, by simpa [edgeN] using h5, fun b hb => ?_⟩
  have := h6 b (by omega) hb
  simp at this
  omega

theorem edge_only (n M m e : Nat) (h2 : 2 ≤ n) (h65 : n ≤ 65) (hm : m ≤ M + 1) (h1 : (m : Int) * hiN (n - 1) ≤ hiN e * ((M : Int) + 1)) (h3 : ∀ b, b < e → hiN b * ((M : Int) + 1) < (m : Int) * hiN (n - 1)) : edgeN n M m = e := by
  obtain ⟨_, h4, h5⟩ := edge_spec n M m h2 h65 hm
  have a1 : ¬ edgeN n M m < e := fun c => by have := h3 _ c; omega
  have a2 : ¬ e < edgeN n M m := fun c => by have := h5 _ c; omega
  omega

theorem edge_mono (n M m k : Nat) (h2 : 2 ≤ n) (h65 : n ≤ 65) (hm : m ≤ k) (hk : k ≤ M + 1) : edgeN n M m ≤ edgeN n M k := by
  have h0 := (hi_bds (n - 1) (by omega)).1
  obtain ⟨_, _, h5⟩ := edge_spec n M m h2 h65 (by omega)
  obtain ⟨_, h6, _⟩ := edge_spec n M k h2 h65 hk
  have h7 : (m : Int) * hiN (n - 1) ≤ (k : Int) * hiN (n - 1) := Int.mul_le_mul_of_nonneg_right (by omega) h0
  have : ¬ edgeN n M k < edgeN n M m := fun c => by have := h5 _ c; omega
  omega

theorem edge_zero (n M : Nat) (h2 : 2 ≤ n) (h65 : n ≤ 65) : edgeN n M 0 = 0 :=
  edge_only n M 0 0 h2 h65 (by omega) (by rw [hi_zero]; simp) (fun b hb => by omega)

theorem edge_top (n M : Nat) (h2 : 2 ≤ n) (h65 : n ≤ 65) : edgeN n M (M + 1) = n - 1 := by
  refine edge_only n M (M + 1) (n - 1) h2 h65 (Nat.le_refl _) (by rw [Int.mul_comm]; simp) (fun b hb => ?_)
  have := hi_lt hb (by omega)
  rw [show ((M + 1 : Nat) : Int) = (M : Int) + 1 by omega, Int.mul_comm]
  exact Int.mul_lt_mul_of_pos_left this (by omega)

def edgesL (n M : Nat) : List Int := mkL (M + 2) fun m => (edgeN n M m : Int)

def near30 (x : Int) : Prop := -1073741824 ≤ x ∧ x ≤ 1073741824
instance (x : Int) : Decidable (near30 x) := by unfold near30; infer_instance

def weightI (b low mid top : Int) : Int :=
  if near30 b ∧ near30 low ∧ near30 mid ∧ near30 top then
    if low ≤ b ∧ b < mid then 256 * (b - low) / (mid - low) else if mid ≤ b ∧ b < top then 256 * (top - b) / (top - mid) else 0
  else 0

theorem part_bds (x d : Int) (h0 : 0 ≤ x) (h1 : x ≤ d) (h2 : 0 < d) : 0 ≤ 256 * x / d ∧ 256 * x / d ≤ 256 ∧ (256 * x / d = 256 → x = d) := by
  have a1 : 0 ≤ 256 * x / d := Int.ediv_nonneg (by omega) (by omega)
  have a2 : 256 * x / d ≤ 256 := by
    have : 256 * x / d ≤ 256 * d / d := Int.ediv_le_ediv h2 (by omega)
    rwa [Int.mul_ediv_cancel _ (by omega)] at this
  refine ⟨a1, a2, fun e => ?_⟩
  have := Int.mul_ediv_add_emod (256 * x) d
  have := Int.emod_nonneg (256 * x) (b := d) (by omega)
  rw [e] at *
  omega

theorem weight_bds (b low mid top : Int) : 0 ≤ weightI b low mid top ∧ weightI b low mid top ≤ 256 ∧ (weightI b low mid top = 256 → b = mid) := by
  unfold weightI
  split
  · split
    · rename_i h
      have := part_bds (b - low) (mid - low) (by omega) (by omega) (by omega)
      exact ⟨this.1, this.2.1, fun e => by have := this.2.2 e; omega⟩
    · split
      · rename_i h
        have := part_bds (top - b) (top - mid) (by omega) (by omega) (by omega)
        exact ⟨this.1, this.2.1, fun e => by have := this.2.2 e; omega⟩
      · omega
  · omega

theorem weight_out (b low mid top : Int) (h1 : low ≤ mid) (h2 : mid ≤ top) (h : b < low ∨ top ≤ b) : weightI b low mid top = 0 := by
  unfold weightI
  split
  · rw [if_neg (by omega), if_neg (by omega)]
  · rfl

theorem weight_mid (b low top : Int) (hn : near30 b ∧ near30 low ∧ near30 top) (h2 : b < top) : weightI b low b top = 256 := by
  unfold weightI
  rw [if_pos ⟨hn.1, hn.2.1, hn.1, hn.2.2⟩, if_neg (by omega), if_pos (by omega), Int.mul_ediv_cancel _ (by omega)]

/-- Where one band falls, the next one rises. -/
theorem weight_both (b e0 e1 e2 e3 : Int) (h0 : near30 b ∧ near30 e0 ∧ near30 e1 ∧ near30 e2 ∧ near30 e3) (h1 : e1 ≤ b) (h2 : b < e2) :
    weightI b e0 e1 e2 + weightI b e1 e2 e3 = 256 ∨ weightI b e0 e1 e2 + weightI b e1 e2 e3 = 255 := by
  obtain ⟨n1, n2, n3, n4, n5⟩ := h0
  unfold weightI
  rw [if_pos ⟨n1, n2, n3, n4⟩, if_neg (by omega), if_pos ⟨h1, h2⟩, if_pos ⟨n1, n3, n4, n5⟩, if_pos ⟨h1, h2⟩]
  have hd : 0 < e2 - e1 := by omega
  have e : 256 * (e2 - b) = (e2 - e1) * 256 - 256 * (b - e1) := by omega
  generalize hD : e2 - e1 = d at hd e ⊢
  generalize 256 * (b - e1) = y at e ⊢
  rw [e]
  have k1 := Int.mul_ediv_add_emod y d
  have k2 := Int.emod_nonneg y (b := d) (by omega)
  have k3 := Int.emod_lt_of_pos y hd
  by_cases c : y % d = 0
  · left
    have : (d * 256 - y) / d = 256 - y / d := by
      rw [show d * 256 - y = (256 - y / d) * d by rw [Int.sub_mul, Int.mul_comm (y / d) d, Int.mul_comm 256 d]; omega]
      exact Int.mul_ediv_cancel _ (by omega)
    omega
  · right
    have : (d * 256 - y) / d = 255 - y / d := by
      have e2 : d * 256 - y = (d - y % d) + d * (255 - y / d) := by rw [Int.mul_sub]; omega
      rw [e2, Int.add_mul_ediv_left _ _ (by omega), Int.ediv_eq_zero_of_lt (by omega) (by omega)]; omega
    omega

def bandS (power : List Int) (e0 e1 e2 : Int) (n : Nat) : Int := sumF (fun b => power.getD b 0 * weightI (b : Int) e0 e1 e2) n

def bandI (power : List Int) (e0 e1 e2 : Int) : Int := wrap64 (bandS power e0 e1 e2 power.length) / 256

def bandsL (power edges : List Int) : List Int := mkL (edges.length - 2) fun m => bandI power (edges.getD m 0) (edges.getD (m + 1) 0) (edges.getD (m + 2) 0)

theorem bands_len (power edges : List Int) : (bandsL power edges).length = edges.length - 2 := mkL_len _ _

/-- Of powers that 256 goes into nothing is lost. -/
theorem band_whole (power q : List Int) (e0 e1 e2 : Int) (n : Nat) (hn : power.length = n) (h66 : n ≤ 66) (hq : ∀ b, b < n → power.getD b 0 = 256 * q.getD b 0 ∧ -1099511627776 ≤ q.getD b 0 ∧ q.getD b 0 ≤ 1099511627776) :
    bandI power e0 e1 e2 = sumF (fun b => q.getD b 0 * weightI (b : Int) e0 e1 e2) n := by
  have hs : bandS power e0 e1 e2 n = 256 * sumF (fun b => q.getD b 0 * weightI (b : Int) e0 e1 e2) n := by
    unfold bandS
    rw [← sumF_mul]
    exact sumF_congr _ _ _ fun b hb => by rw [(hq b hb).1, Int.mul_assoc]
  have hb := sumF_bd (fun b => q.getD b 0 * weightI (b : Int) e0 e1 e2) (1099511627776 * 256) n fun b hb => by
    obtain ⟨_, h1, h2⟩ := hq b hb
    obtain ⟨w1, w2, _⟩ := weight_bds (b : Int) e0 e1 e2
    exact mul_bd _ _ _ _ (by decide) (by decide) ⟨h1, h2⟩ ⟨by omega, w2⟩
  unfold bandI
  rw [hn, hs, w64_in ⟨by omega, by omega⟩, Int.mul_ediv_cancel_left _ (by decide)]

theorem band_plus (p q : List Int) (e0 e1 e2 : Int) (n : Nat) : sumF (fun b => (p.getD b 0 + q.getD b 0) * weightI (b : Int) e0 e1 e2) n = sumF (fun b => p.getD b 0 * weightI (b : Int) e0 e1 e2) n + sumF (fun b => q.getD b 0 * weightI (b : Int) e0 e1 e2) n := by
  rw [← sumF_plus]; exact sumF_congr _ _ _ fun b _ => Int.add_mul _ _ _

theorem band_alone (k n : Nat) (e0 e1 e2 : Int) (hk : k < n) : sumF (fun b => (if b = k then (1 : Int) else 0) * weightI (b : Int) e0 e1 e2) n = weightI (k : Int) e0 e1 e2 := by
  rw [sumF_one _ k _ hk (fun t _ hne => by rw [if_neg hne, Int.zero_mul]), if_pos rfl, Int.one_mul]
end Go.Proofs.Ytmogegacgmgkbaa
