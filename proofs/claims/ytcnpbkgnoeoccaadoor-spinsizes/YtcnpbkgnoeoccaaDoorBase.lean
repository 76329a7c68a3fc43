/- Contracts of rounds and cosines, rows in memory. -/
import Derived.Test.YtcnpbkgnoeoccaaDoorRows
import Derived.WalkKit
import Derived.WalkSpells
import Derived.WalkLawsBesides
import Derived.Deep.RegionWith
import Derived.Laws.AppendOwnNone
import Derived.Deep.RegionHeld3
import Derived.Deep.AppendLies
import Derived.Laws.IdiomStrings
import Derived.Orders
import Derived.Deep.LoopGhost
import Derived.Laws.CopyOwn
import Derived.Deep.OwnRows
import Derived.Deep.QuietTactic
import Derived.BigQuiet
import Derived.ProofKit
import Derived.OpenShut
import Derived.Deep.Slices
import Derived.Deep.Strs
import Derived.BigRegion
namespace Go.Proofs.YtcnpbkgnoeoccaaDoor
open Go.RowKit
set_option linter.unusedVariables false

def In64 (x : Int) : Prop := -9223372036854775808 ≤ x ∧ x ≤ 9223372036854775807

def num64 (n : Int) : Int := if -9223372036854775808 ≤ n ∧ n ≤ 9223372036854775807 then n else 0

theorem two_pow_le (m n : Nat) (h : m ≤ n) : (2 : Int) ^ m ≤ 2 ^ n := by
  have h1 : 2 ^ m ≤ 2 ^ n := Nat.pow_le_pow_right (by decide) h
  exact_mod_cast h1

theorem in_of_wf {x : Int} (h : (Lit.int .i64 x).wf = true) : In64 x := by
  simp [Lit.wf, IntKind.min, IntKind.max, IntKind.signed, IntKind.bits] at h
  exact ⟨by omega, by omega⟩

theorem hide {p : Prop} (h : p) : Hid p := h

theorem unhide {p : Prop} (h : Hid p) : p := h

theorem w64_in {n : Int} (h : In64 n) : wrap64 n = n := by obtain ⟨h0, h1⟩ := h; unfold wrap64; omega

theorem i64_mask (n m : Int) (k : Nat) (hk : k ≤ 62) (hm : (BitVec.ofInt 64 m).toNat = 2 ^ k - 1) : bits .and .i64 n m = n % 2 ^ k := by
  have key : (BitVec.ofInt 64 n &&& BitVec.ofInt 64 m).toNat = (n % ((2 ^ 64 : Nat) : Int)).toNat % 2 ^ k := by
    rw [BitVec.toNat_and, BitVec.toNat_ofInt, hm, Nat.and_two_pow_sub_one_eq_mod]
  show IntKind.i64.wrap ((BitVec.ofInt 64 n &&& BitVec.ofInt 64 m).toNat : Nat) = n % 2 ^ k
  rw [key, IntKind.wrap_i64]
  have h0 : 0 ≤ n % ((2 ^ 64 : Nat) : Int) := Int.emod_nonneg _ (by decide)
  have h1 : ((((n % ((2 ^ 64 : Nat) : Int)).toNat % 2 ^ k : Nat)) : Int) = n % 2 ^ k := by
    rw [Int.natCast_emod, Int.toNat_of_nonneg h0]
    have hd : ((2 ^ k : Nat) : Int) ∣ ((2 ^ 64 : Nat) : Int) := Int.natCast_dvd_natCast.2 (Nat.pow_dvd_pow 2 (by omega))
    rw [Int.emod_emod_of_dvd n hd]
    simp
  rw [h1]
  have h2 : (2 : Int) ^ k ≤ 2 ^ 62 := two_pow_le k 62 hk
  have h3 : (0 : Int) < 2 ^ k := Int.pow_pos (by decide)
  have h4 := Int.emod_nonneg n (b := 2 ^ k) (by omega)
  have h5 := Int.emod_lt_of_pos n h3
  generalize n % 2 ^ k = r at *
  generalize (2 : Int) ^ k = q at *
  have h6 : (2 : Int) ^ 62 = 4611686018427387904 := by decide
  omega

theorem i64_and63 (n : Int) : bits .and .i64 n 63 = n % 64 := i64_mask n 63 6 (by decide) (by decide)

theorem ret_int {k : IntKind} {a b : Int} (h : a = b) : Ending.returned (.int k a) = .returned (.int k b) := by rw [h]

theorem ret_ii {k l : IntKind} {a b c d : Int} (h : a = b ∧ c = d) : Ending.returned (.tuple #[.int k a, .int l c]) = .returned (.tuple #[.int k b, .int l d]) := by rw [h.1, h.2]

/-- A slice of int lies in memory: its numbers, cell by cell. -/
def Lies (w : World) (a : Option Addr) (xs : List Int) : Prop :=
  xs = [] ∨ ∃ b off, a = some ⟨b, off, none⟩ ∧ b < w.heap.size ∧ ∀ j, j < xs.length → w.cell? ⟨b, off + j, none⟩ = some (.int .i64 (xs.getD j 0))

theorem Lies.below {w w' : World} {a : Option Addr} {xs : List Int} (h : Lies w a xs) (hb : Below w.heap.size w w') : Lies w' a xs := by
  rcases h with h | ⟨b, off, ha, hlt, hc⟩
  · exact .inl h
  · exact .inr ⟨b, off, ha, Nat.lt_of_lt_of_le hlt hb.size, fun j hj => by rw [hb.cell (p := ⟨b, off + j, none⟩) hlt]; exact hc j hj⟩

def Small (xs : List Int) : Prop := ∀ x ∈ xs, In64 x

theorem Small.at {xs : List Int} (h : Small xs) (k : Nat) (hk : k < xs.length) : In64 (xs.getD k 0) := by
  rw [List.getD_eq_getElem?_getD, List.getElem?_eq_getElem hk]
  exact h _ (List.getElem_mem hk)

theorem World.heap_drew (w : World) : w.drew.heap = w.heap := rfl

theorem lies_new (w : World) (xs : List Int) (n : Nat) (hn : n = w.heap.size) : Lies (w.alloc (.cells (xs.map (Value.int .i64)).toArray 3)) (some ⟨n, 0, none⟩) xs := by
  subst hn
  refine .inr ⟨w.heap.size, 0, rfl, by simp, fun j hj => ?_⟩
  rw [World.cell?_alloc_at _ _ _ _ rfl]
  simp [List.getD_eq_getElem?_getD, List.getElem?_eq_getElem hj]

set_option maxHeartbeats 1000000 in
theorem few_yes (a : Addr) (len cap : Nat) (w : World) (h : 40 < len) (hc : len ≤ cap) (hm : cap ≤ 9223372036854775807) :
    Calls Tryd.prog 11 #[.slice (some a) len cap] w fun e w' => e = .returned (.slice (some a) 40 cap) ∧ w' = w := by
  have h' : (40 : Int) < (len : Int) := by omega
  have h2 : (40 : Int) ≤ (cap : Int) := by omega
  go_enter Tryd.func11, Tryd.ntmps11
  go_wp2
  go_ret
  exact ⟨rfl, rfl⟩

set_option maxHeartbeats 1000000 in
theorem few_no (a : Option Addr) (len cap : Nat) (w : World) (h : len ≤ 40) :
    Calls Tryd.prog 11 #[.slice a len cap] w fun e w' => e = .returned (.slice a len cap) ∧ w' = w := by
  have h' : ¬ (40 : Int) < (len : Int) := by omega
  go_enter Tryd.func11, Tryd.ntmps11
  go_wp2
  go_ret
  exact ⟨rfl, rfl⟩

def IsRow (k : IntKind) (w : World) (a : Option Addr) (len cap : Nat) (zs : List Int) : Prop :=
  (a = none ∧ len = 0 ∧ cap = 0 ∧ zs = []) ∨
  ∃ x, a = some x ∧ len ≤ cap ∧ cap ≤ maxLen ∧ zs.length = cap ∧ (∀ i, i < zs.length → w.cell? (x.add i) = some (.int k (zs.getD i 0))) ∧ ∀ n ∈ zs, (Lit.int k n).wf = true

theorem lt_of_cell {w : World} {p : Addr} {v : Value} (h : w.cell? p = some v) : p.block < w.heap.size := by
  rcases Nat.lt_or_ge p.block w.heap.size with h' | h'
  · exact h'
  · simp [World.cell?, Array.getElem?_eq_none h'] at h

theorem lies_of_row {w : World} {x : Addr} {zs : List Int} (n : Nat) (hn : n ≤ zs.length) (hc : ∀ i, i < zs.length → w.cell? (x.add i) = some (.int .i64 (zs.getD i 0))) : Lies w (some x) (zs.take n) := by
  by_cases h0 : n = 0
  · subst h0; exact .inl (by simp)
  · obtain ⟨b, off, spot⟩ := x
    have h1 := hc 0 (by omega)
    have hspot : spot = none := by simpa [Addr.add] using World.cell?_spot h1
    subst hspot
    refine .inr ⟨b, off, rfl, ?_, fun j hj => ?_⟩
    · have := lt_of_cell h1; simpa [Addr.add] using this
    · have hj' : j < n := by simp at hj; omega
      have h2 := hc j (by omega)
      rw [show (zs.take n).getD j 0 = zs.getD j 0 by simp [List.getD_eq_getElem?_getD, hj']]
      rw [Addr.add_lit] at h2
      exact h2

theorem small_take {zs : List Int} (n : Nat) (h : ∀ z ∈ zs, (Lit.int .i64 z).wf = true) : Small (zs.take n) := fun x hx => in_of_wf (h x (List.mem_of_mem_take hx))

theorem few_came (a : Option Addr) (len cap : Nat) (zs : List Int) (w : World) (h : IsRow .i64 w a len cap zs) :
    ∃ xs : List Int, xs.length ≤ 40 ∧ xs.length ≤ cap ∧ cap ≤ 9223372036854775807 ∧ Lies w a xs ∧ Small xs ∧ (a = none → xs = [] ∧ cap = 0) ∧
      ∀ w', Calls Tryd.prog 11 #[.slice a len cap] w' fun e w'' => e = .returned (.slice a xs.length cap) ∧ w'' = w' := by
  rcases h with ⟨rfl, rfl, rfl, rfl⟩ | ⟨x, rfl, hl, hm, hz, hcell, hwz⟩
  · exact ⟨[], by simp, by simp, by omega, .inl rfl, by intro x hx; simp at hx, fun _ => ⟨rfl, rfl⟩, fun w' => few_no none 0 0 w' (by omega)⟩
  · unfold maxLen at hm
    by_cases hlen : 40 < len
    · refine ⟨zs.take 40, by simp; omega, by simp; omega, hm, lies_of_row 40 (by omega) hcell, small_take 40 hwz, fun e => by simp at e, fun w' => ?_⟩
      rw [show (zs.take 40).length = 40 by simp; omega]
      exact few_yes x len cap w' hlen hl hm
    · refine ⟨zs.take len, by simp; omega, by simp; omega, hm, lies_of_row len (by omega) hcell, small_take len hwz, fun e => by simp at e, fun w' => ?_⟩
      rw [show (zs.take len).length = len by simp; omega]
      exact few_no (some x) len cap w' (by omega)

theorem ob (bits : Int) : wrap64 (1 + Go.bits BinOp.and IntKind.i64 bits 63) = 1 + bits % 64 := by
  rw [i64_and63, w64_in ⟨by omega, by omega⟩]

theorem Tryd.info3 : (Tryd.prog.info? 3).map (fun i => (i.zero, i.size, i.bytes)) = some (some (.int .i64 0), 1, 8) := by kernel_rfl

theorem owned_lies {w : World} {base n : Nat} {v : Value} {xs : List Int} (h : w.ownsRow base 3 1 v n (xs.map (Value.int .i64))) :
    ∃ a cap, v = .slice a xs.length cap ∧ Lies w a xs ∧ xs.length = n := by
  have hn : xs.length = n := by have := h.1; simpa using this
  rcases h.2 with ⟨hv, h0⟩ | ⟨g, cap, cur, hv, hb, hg, _⟩
  · subst h0
    have hx : xs = [] := List.length_eq_zero_iff.1 hn
    subst hx
    exact ⟨none, 0, hv, .inl rfl, rfl⟩
  · refine ⟨some ⟨g, 0, none⟩, cap, by rw [hv, hn], .inr ⟨g, 0, rfl, (Array.getElem?_eq_some_iff.1 hg).1, fun j hj => ?_⟩, hn⟩
    have hc := h.cells (g := g) (by rw [hv]; rfl) j (.int .i64 (xs.getD j 0)) (by simp [List.getD_eq_getElem?_getD, List.getElem?_eq_getElem hj])
    rw [Addr.add_lit] at hc
    exact hc

theorem lies_news {w : World} {ad : Addr} {xs : List Int} (h : Lies w (some ad) xs) : ∀ j u, (xs.map (Value.int .i64))[j]? = some u → w.cell? (ad.add j) = some u := by
  intro j u hu
  rcases h with rfl | ⟨b, off, ha, _, hc⟩
  · simp at hu
  · cases ha
    rw [Addr.add_lit]
    simp at hu
    obtain ⟨z, hz, rfl⟩ := hu
    have hj : j < xs.length := (List.getElem?_eq_some_iff.1 hz).1
    rw [hc j hj, List.getD_eq_getElem?_getD, hz]; rfl

theorem ints_one (xs : List Int) : ∀ u ∈ xs.map (Value.int .i64), u.oneCell' = true := by
  intro u hu
  obtain ⟨z, _, rfl⟩ := List.mem_map.1 hu
  rfl

theorem at_mod (t : Int) (n : Nat) (h : In64 t) (h0 : 0 < n) (h1 : n ≤ 40) : ∃ k : Nat, k < n ∧ (wrap64 (t.tmod n + n)).tmod n = k := by
  have h2 := Int.tmod_lt_of_pos t (b := (n : Int)) (by omega)
  have h3 := Int.lt_tmod_of_pos t (b := (n : Int)) (by omega)
  rw [w64_in ⟨by omega, by omega⟩, Int.tmod_eq_emod_of_nonneg (by omega)]
  have h4 := Int.emod_nonneg (t.tmod n + n) (b := (n : Int)) (by omega)
  have h5 := Int.emod_lt_of_pos (t.tmod n + n) (b := (n : Int)) (by omega)
  exact ⟨((t.tmod n + n) % n).toNat, by omega, by omega⟩

theorem lies_take {w : World} {a : Option Addr} {xs : List Int} (h : Lies w a xs) (k : Nat) (hk : k ≤ xs.length) : Lies w a (xs.take k) := by
  rcases h with rfl | ⟨b, off, ha, hb, hc⟩
  · exact .inl (by simp)
  · refine .inr ⟨b, off, ha, hb, fun j hj => ?_⟩
    have hj' : j < k := by simp at hj; omega
    rw [hc j (by omega)]
    simp [List.getD_eq_getElem?_getD, hj']

theorem num64_in (n : Int) : In64 (num64 n) := by
  unfold num64
  split
  · assumption
  · exact ⟨by decide, by decide⟩

theorem keep_grown {w w' : World} {o : Obj} {row : Option Nat} {b off : Nat} {v : Value} (hg : ((w.alloc o).drew).grownBy w' row) (hp : b < w.heap.size) (hr : ∀ j, j = b → row ≠ some j) (hc : w.cell? ⟨b, off, none⟩ = some v) : w'.cell? ⟨b, off, none⟩ = some v := by
  rw [← hc]
  apply World.cell?_of_block
  show w'.heap[b]? = w.heap[b]?
  rw [hg.block b (by show b < (w.alloc o).heap.size; simp; omega) (fun e => hr b rfl e.symm)]
  exact Below.heap_alloc w o b hp

theorem below_trans {w w1 w2 : World} (h1 : Below w.heap.size w w1) (h2 : Below w1.heap.size w1 w2) : Below w.heap.size w w2 := h1.trans (h2.mono h1.size)

def quoI (x n : Int) : Int := if n < 1 then 0 else x / n

def remI (x n : Int) : Int := if n < 1 then 0 else x % n

theorem quoI_pos (x n : Int) (h : 1 ≤ n) : quoI x n = x / n := by unfold quoI; rw [if_neg (by omega)]

theorem remI_pos (x n : Int) (h : 1 ≤ n) : remI x n = x % n := by unfold remI; rw [if_neg (by omega)]

theorem quoI_no (x n : Int) (h : n < 1) : quoI x n = 0 := by unfold quoI; rw [if_pos h]

theorem remI_no (x n : Int) (h : n < 1) : remI x n = 0 := by unfold remI; rw [if_pos h]

theorem tq_neg (x n : Int) (h : 1 ≤ n) (hr : x.tmod n < 0) : x.tdiv n = x / n + 1 ∧ x.tmod n = x % n - n := by
  have h1 := Int.mul_tdiv_add_tmod x n
  have h2 := Int.lt_tmod_of_pos x (b := n) (by omega)
  have h3 : x = (x.tmod n + n) + (x.tdiv n - 1) * n := by
    rw [Int.sub_mul, Int.mul_comm (x.tdiv n) n]; omega
  have h4 : x / n = x.tdiv n - 1 := by
    conv => lhs; rw [h3]
    rw [Int.add_mul_ediv_right _ _ (by omega), Int.ediv_eq_zero_of_lt (by omega) (by omega)]; omega
  have h5 : x % n = x.tmod n + n := by
    conv => lhs; rw [h3]
    rw [Int.add_mul_emod_self_right, Int.emod_eq_of_lt (by omega) (by omega)]
  omega

theorem tq_pos (x n : Int) (h : 1 ≤ n) (hr : ¬ x.tmod n < 0) : x.tdiv n = x / n ∧ x.tmod n = x % n := by
  have h1 := Int.mul_tdiv_add_tmod x n
  have h2 := Int.tmod_lt_of_pos x (b := n) (by omega)
  have h3 : x = x.tmod n + x.tdiv n * n := by
    rw [Int.mul_comm (x.tdiv n) n]; omega
  have h4 : x / n = x.tdiv n := by
    conv => lhs; rw [h3]
    rw [Int.add_mul_ediv_right _ _ (by omega), Int.ediv_eq_zero_of_lt (by omega) (by omega)]; omega
  have h5 : x % n = x.tmod n := by
    conv => lhs; rw [h3]
    rw [Int.add_mul_emod_self_right, Int.emod_eq_of_lt (by omega) (by omega)]
  omega

theorem quo_in (x n : Int) (h : 1 ≤ n) (hx : In64 x) : In64 (x / n) := by
  obtain ⟨h1, h2⟩ := hx
  refine ⟨?_, ?_⟩
  · rw [Int.le_ediv_iff_mul_le (by omega)]
    omega
  · have h3 : x / n < 9223372036854775808 := by
      rw [Int.ediv_lt_iff_lt_mul (by omega)]
      omega
    omega

theorem rem_bd (x n : Int) (h : 1 ≤ n) : 0 ≤ x % n ∧ x % n < n := ⟨Int.emod_nonneg _ (by omega), Int.emod_lt_of_pos _ (by omega)⟩

theorem tq_bd (x n : Int) (h : 1 ≤ n) (hr : x.tmod n < 0) (hx : In64 x) : -9223372036854775808 ≤ x.tdiv n - 1 ∧ x.tdiv n ≤ 9223372036854775807 := by
  have hx0 : x < 0 := by
    rcases Int.lt_or_le x 0 with h | h
    · exact h
    · have := Int.tmod_nonneg n h; omega
  have h5 : x / n < 0 := by rw [Int.ediv_lt_iff_lt_mul (by omega)]; omega
  have h6 := (quo_in x n h hx).1
  rw [(tq_neg x n h hr).1]
  omega

set_option maxHeartbeats 1000000 in
theorem parts_any (x n : Int) (w : World) (hx : In64 x) (hn : In64 n) :
    Calls Tryd.prog 24 #[.int .i64 x, .int .i64 n] w fun e w' => e = .returned (.tuple #[.int .i64 (quoI x n), .int .i64 (remI x n)]) ∧ Below w.heap.size w w' := by
  by_cases c : n < 1
  · have H := hide (And.intro (quoI_no x n c) (remI_no x n c))
    go_enter Tryd.func24, Tryd.ntmps24
    go_wp2
    go_ret2
    exact ⟨ret_ii ⟨(unhide H).1.symm, (unhide H).2.symm⟩, Below.refl _ _⟩
  · have hn1 : 1 ≤ n := by omega
    have n0 : (n == 0) = false := by simp; omega
    have n0' : ¬ n = 0 := by omega
    have H := hide (And.intro (quoI_pos x n hn1) (remI_pos x n hn1))
    have Hq := hide (quo_in x n hn1 hx)
    have Hr := hide (rem_bd x n hn1)
    have hmr1 := Int.tmod_lt_of_pos x (b := n) (by omega)
    have hmr2 := Int.lt_tmod_of_pos x (b := n) (by omega)
    obtain ⟨h1, h2⟩ := hx
    obtain ⟨h3, h4⟩ := hn
    by_cases hr : x.tmod n < 0
    · have T := tq_neg x n hn1 hr
      have H1 := hide T.1
      have H2 := hide T.2
      have hb := (tq_bd x n hn1 hr ⟨h1, h2⟩).1
      have hb' := (tq_bd x n hn1 hr ⟨h1, h2⟩).2
      clear T
      have HV := hide (show x.tdiv n - 1 = quoI x n ∧ x.tmod n + n = remI x n by rw [(unhide H).1, (unhide H).2, unhide H1, unhide H2]; omega)
      go_enter Tryd.func24, Tryd.ntmps24
      go_wp2
      go_region
      go_wp2
      go_ret2
      exact ⟨ret_ii ⟨(unhide HV).1, (unhide HV).2⟩, (Below.refl _ w).drew⟩
    · have T := tq_pos x n hn1 hr
      have hb := quo_in x n hn1 ⟨h1, h2⟩
      rw [← T.1] at hb
      obtain ⟨hb1, hb2⟩ := hb
      have HV := hide (show x.tdiv n = quoI x n ∧ x.tmod n = remI x n by rw [(unhide H).1, (unhide H).2]; exact T)
      clear T
      go_enter Tryd.func24, Tryd.ntmps24
      go_wp2
      go_region
      go_wp2
      go_ret2
      exact ⟨ret_ii ⟨(unhide HV).1, (unhide HV).2⟩, (Below.refl _ w).drew⟩

def two (n : Int) : Int := 2 ^ n.toNat

set_option maxHeartbeats 1000000 in
theorem rquot_any (x n : Int) (w : World) (hx : In64 x) (hn1 : 1 ≤ n) (hn2 : n ≤ 9223372036854775807) :
    Calls Tryd.prog 39 #[.int .i64 x, .int .i64 n] w fun e w' => e = .returned (.int .i64 (x / n)) ∧ w' = w := by
  have n0 : (n == 0) = false := by simp; omega
  have n0' : ¬ n = 0 := by omega
  have hx' := hx
  obtain ⟨h1, h2⟩ := hx
  by_cases hr : x.tmod n < 0
  · have T := tq_neg x n hn1 hr
    have HV := hide (show x.tdiv n - 1 = x / n by omega)
    have hb := tq_bd x n hn1 hr hx'
    obtain ⟨hb1, hb2⟩ := hb
    clear T
    go_enter Tryd.func39, Tryd.ntmps39
    go_wp2
    go_ret
    exact ⟨ret_int (unhide HV), rfl⟩
  · have T := tq_pos x n hn1 hr
    have HV := hide T.1
    have hb := quo_in x n hn1 hx'
    rw [← T.1] at hb
    obtain ⟨hb1, hb2⟩ := hb
    clear T
    go_enter Tryd.func39, Tryd.ntmps39
    go_wp2
    go_ret
    exact ⟨ret_int (unhide HV), rfl⟩

set_option maxHeartbeats 1000000 in
theorem rrest_any (x n : Int) (w : World) (hx : In64 x) (hn1 : 1 ≤ n) (hn2 : n ≤ 9223372036854775807) :
    Calls Tryd.prog 32 #[.int .i64 x, .int .i64 n] w fun e w' => e = .returned (.int .i64 (x % n)) ∧ w' = w := by
  have HV := hide (show wrap64 (x - wrap64 (x / n * n)) = x % n by
    have h1 := Int.mul_ediv_add_emod x n
    have h2 := rem_bd x n hn1
    rw [Int.mul_comm] at h1
    obtain ⟨h3, h4⟩ := hx
    generalize x / n * n = z at *
    generalize x % n = r at *
    unfold wrap64
    omega)
  go_enter Tryd.func32, Tryd.ntmps32
  go_wp2_with fail
  refine (rquot_any x n _ hx hn1 hn2).mono ?_
  rintro e w1 ⟨rfl, rfl⟩
  go_wp2
  go_ret
  exact ⟨ret_int (unhide HV), rfl⟩

theorem append_new (w : World) (o : Obj) (x : Value) (t : TypeId) : ∀ j u, [x][j]? = some u → ((w.alloc o).alloc (.cells #[x] t)).cell? ((⟨w.heap.size + 1, 0, none⟩ : Addr).add j) = some u := by
  have h := cell_one_new (w.alloc o) x t
  rwa [World.size_alloc] at h

def quarL : List Int := [16384, 16305, 16069, 15679, 15137, 14449, 13623, 12665, 11585, 10394, 9102, 7723, 6270, 4756, 3196, 1606, 0]

def quarAt (k : Nat) : Int := quarL.getD k 0

def cosL : List Int := [16384, 16305, 16069, 15679, 15137, 14449, 13623, 12665, 11585, 10394, 9102, 7723, 6270, 4756, 3196, 1606, 0, -1606, -3196, -4756, -6270, -7723, -9102, -10394, -11585, -12665, -13623, -14449, -15137, -15679, -16069, -16305, -16384, -16305, -16069, -15679, -15137, -14449, -13623, -12665, -11585, -10394, -9102, -7723, -6270, -4756, -3196, -1606, 0, 1606, 3196, 4756, 6270, 7723, 9102, 10394, 11585, 12665, 13623, 14449, 15137, 15679, 16069, 16305]

def cosAt (r : Nat) : Int := cosL.getD r 0

def cosI (k : Int) : Int := cosAt (k % 64).toNat

def sinI (k : Int) : Int := cosI (k - 16)

theorem cos_small (k : Nat) (h : k ≤ 16) : cosAt k = quarAt k := by
  have : ∀ k, k < 17 → cosAt k = quarAt k := by decide +kernel
  exact this k (by omega)

theorem cos_half (k : Nat) (h : k ≤ 16) : cosAt (32 - k) = -quarAt k := by
  have : ∀ k, k < 17 → cosAt (32 - k) = -quarAt k := by decide +kernel
  exact this k (by omega)

theorem cos_back (k : Nat) (h : k ≤ 31) (h1 : 1 ≤ k) : cosAt (64 - k) = cosAt k := by
  have : ∀ k, k < 32 → 1 ≤ k → cosAt (64 - k) = cosAt k := by decide +kernel
  exact this k (by omega) h1

theorem cosAt_bd (k : Nat) : -16384 ≤ cosAt k ∧ cosAt k ≤ 16384 := by
  by_cases c : k < 64
  · have : ∀ k, k < 64 → -16384 ≤ cosAt k ∧ cosAt k ≤ 16384 := by decide +kernel
    exact this k c
  · have hl : cosL.length = 64 := by decide +kernel
    have : cosAt k = 0 := by unfold cosAt; rw [List.getD_eq_getElem?_getD, List.getElem?_eq_none (by omega)]; rfl
    omega

theorem cosI_bd (k : Int) : -16384 ≤ cosI k ∧ cosI k ≤ 16384 := cosAt_bd _

theorem sinI_mod (k : Int) : cosI (k % 64 - 16) = sinI k := by unfold sinI cosI; congr 2; omega

theorem quar_bd (k : Nat) (h : k ≤ 16) : 0 ≤ quarAt k ∧ quarAt k ≤ 16384 := by
  have : ∀ k, k < 17 → 0 ≤ quarAt k ∧ quarAt k ≤ 16384 := by decide +kernel
  exact this k (by omega)

/-- The package's table of the quarter lies in memory. -/
def Quar (w : World) : Prop := 0 < w.heap.size ∧ ∀ i, i < 17 → w.cell? ⟨0, i, none⟩ = some (.int .i64 (quarAt i))

theorem Quar.below {w w' : World} (h : Quar w) (hb : Below w.heap.size w w') : Quar w' := by
  refine ⟨by have := hb.size; have := h.1; omega, fun i hi => ?_⟩
  rw [hb.cell (by exact h.1)]; exact h.2 i hi

theorem told_any (k : Nat) (w : World) (h : k ≤ 16) (hq : Quar w) :
    Calls Tryd.prog 38 #[.int .i64 k] w fun e w' => e = .returned (.int .i64 (quarAt k)) ∧ w' = w := by
  have hc := hq.2 k (by omega)
  obtain ⟨z, hz⟩ : ∃ z, z = quarAt k := ⟨_, rfl⟩
  rw [← hz] at hc ⊢
  have HZ := hide hz
  clear hq hz
  go_enter Tryd.func38, Tryd.ntmps38
  go_wp2
  go_ret
  exact ⟨rfl, rfl⟩

theorem rest_any (k : Int) (w : World) (hk : In64 k) :
    Calls Tryd.prog 37 #[.int .i64 k] w fun e w' => e = .returned (.int .i64 (k % 64)) ∧ Below w.heap.size w w' := by
  have HV := hide (remI_pos k 64 (by decide))
  go_enter Tryd.func37, Tryd.ntmps37
  go_wp2_with fail
  refine (parts_any k 64 _ hk (by constructor <;> decide)).mono ?_
  rintro e w1 ⟨rfl, hb⟩
  go_wp2
  go_ret
  exact ⟨ret_int (unhide HV), hb⟩

theorem turned_low (k : Nat) (w : World) (h : k ≤ 32) (hq : Quar w) :
    Calls Tryd.prog 36 #[.int .i64 k, .func (.func 38) #[] #[]] w fun e w' => e = .returned (.int .i64 (cosAt k)) ∧ w' = w := by
  by_cases c : k ≤ 16
  · have HV := hide (cos_small k c)
    go_enter Tryd.func36, Tryd.ntmps36
    go_wp2_with fail
    refine (told_any k _ c hq).mono ?_
    rintro e w1 ⟨rfl, rfl⟩
    go_wp2
    go_ret
    exact ⟨ret_int (unhide HV).symm, rfl⟩
  · obtain ⟨j, hj, rfl⟩ : ∃ j : Nat, j ≤ 16 ∧ k = 32 - j := ⟨32 - k, by omega, by omega⟩
    have HV := hide (cos_half j hj)
    have hb := quar_bd j hj
    have e1 : (32 : Int) - ((32 - j : Nat) : Int) = j := by omega
    have E1 := hide e1
    clear e1
    go_enter Tryd.func36, Tryd.ntmps36
    go_wp2_with fail
    rw [unhide E1]
    refine (told_any j _ hj hq).mono ?_
    rintro e w1 ⟨rfl, rfl⟩
    go_wp2
    go_ret
    exact ⟨ret_int (unhide HV).symm, rfl⟩

theorem turned_any (k : Nat) (w : World) (h : k < 64) (hq : Quar w) :
    Calls Tryd.prog 36 #[.int .i64 k, .func (.func 38) #[] #[]] w fun e w' => e = .returned (.int .i64 (cosAt k)) ∧ w' = w := by
  by_cases c : k ≤ 32
  · exact turned_low k w c hq
  · obtain ⟨j, hj, hj1, rfl⟩ : ∃ j : Nat, j ≤ 31 ∧ 1 ≤ j ∧ k = 64 - j := ⟨64 - k, by omega, by omega, by omega⟩
    have HV := hide (cos_back j hj hj1)
    have e1 : (64 : Int) - ((64 - j : Nat) : Int) = j := by omega
    have E1 := hide e1
    clear e1
    go_enter Tryd.func36, Tryd.ntmps36
    go_wp2_with fail
    rw [unhide E1]
    refine (turned_low j _ (by omega) hq).mono ?_
    rintro e w1 ⟨rfl, rfl⟩
    go_wp2
    go_ret
    exact ⟨ret_int (unhide HV).symm, rfl⟩

theorem cos_any (k : Int) (w : World) (hk : In64 k) (hq : Quar w) :
    Calls Tryd.prog 29 #[.int .i64 k] w fun e w' => e = .returned (.int .i64 (cosI k)) ∧ Below w.heap.size w w' := by
  obtain ⟨r, hr⟩ : ∃ r : Nat, k % 64 = r := ⟨(k % 64).toNat, by omega⟩
  have h64 : r < 64 := by omega
  have HV := hide (show cosAt r = cosI k by unfold cosI; congr 1; omega)
  have HR := hide hr
  clear hr
  go_enter Tryd.func29, Tryd.ntmps29
  go_wp2_with fail
  refine (rest_any k _ hk).mono ?_
  rintro e w1 ⟨rfl, hb⟩
  go_wp2_with fail
  rw [unhide HR]
  refine (turned_any r _ h64 (hq.below hb)).mono ?_
  rintro e w2 ⟨rfl, rfl⟩
  go_wp2
  go_ret
  exact ⟨ret_int (unhide HV), hb⟩

theorem sin_any (k : Int) (w : World) (hk : In64 k) (hq : Quar w) :
    Calls Tryd.prog 31 #[.int .i64 k] w fun e w' => e = .returned (.int .i64 (sinI k)) ∧ Below w.heap.size w w' := by
  have HV := hide (sinI_mod k)
  have h1 : 0 ≤ k % 64 := by omega
  have h2 : k % 64 < 64 := by omega
  go_enter Tryd.func31, Tryd.ntmps31
  go_wp2_with fail
  refine (rest_any k _ hk).mono ?_
  rintro e w1 ⟨rfl, hb⟩
  go_wp2_with fail
  refine (cos_any (k % 64 - 16) _ (by unfold In64; omega) (hq.below hb)).mono ?_
  rintro e w2 ⟨rfl, hb2⟩
  go_wp2
  go_ret
  exact ⟨ret_int (unhide HV), below_trans hb hb2⟩

theorem owns_below {w w' : World} {base n : Nat} {v : Value} {xs : List Value} (h : w.ownsRow base 3 1 v n xs) (hb : Below w.heap.size w w') : w'.ownsRow base 3 1 v n xs := by
  refine ⟨h.1, ?_⟩
  rcases h.2 with h' | ⟨g, cap, cur, h1, h2, h3, h4⟩
  · exact .inl h'
  · exact .inr ⟨g, cap, cur, h1, h2, by rw [hb.block g (by have := Array.getElem?_eq_some_iff.1 h3; exact this.1)]; exact h3, h4⟩

theorem rrest64 (k : Int) (w : World) (hk : In64 k) :
    Calls Tryd.prog 40 #[.int .i64 k] w fun e w' => e = .returned (.int .i64 (k % 64)) ∧ w' = w := by
  go_enter Tryd.func40, Tryd.ntmps40
  go_wp2_with fail
  refine (rrest_any k 64 _ hk (by decide) (by decide)).mono ?_
  rintro e w1 ⟨rfl, rfl⟩
  go_wp2
  go_ret
  exact ⟨rfl, rfl⟩

theorem quar_list (k : Nat) (h : k ≤ 16) : ([.int .i64 16384, .int .i64 16305, .int .i64 16069, .int .i64 15679, .int .i64 15137, .int .i64 14449, .int .i64 13623, .int .i64 12665, .int .i64 11585, .int .i64 10394, .int .i64 9102, .int .i64 7723, .int .i64 6270, .int .i64 4756, .int .i64 3196, .int .i64 1606, .int .i64 0] : List Value)[k]? = some (.int .i64 (quarAt k)) := by
  show (quarL.map (Value.int .i64))[k]? = _
  have hl : quarL.length = 17 := by decide +kernel
  rw [List.getElem?_map, List.getElem?_eq_getElem (by omega)]
  unfold quarAt
  rw [List.getD_eq_getElem?_getD, List.getElem?_eq_getElem (by omega)]
  rfl

theorem rquarter_any (k : Nat) (w : World) (h : k ≤ 16) :
    Calls Tryd.prog 41 #[.int .i64 k] w fun e w' => e = .returned (.int .i64 (quarAt k)) ∧ Below w.heap.size w w' := by
  have hl := quar_list k h
  go_enter Tryd.func41, Tryd.ntmps41
  go_wp2
  go_ret
  exact ⟨rfl, (Below.refl _ _).alloc (Nat.le_refl _) _⟩

theorem rcos_low (r : Int) (k : Nat) (w : World) (hr : In64 r) (hk : r % 64 = k) (h : k ≤ 32) :
    Calls Tryd.prog 33 #[.int .i64 r] w fun e w' => e = .returned (.int .i64 (cosAt k)) ∧ Below w.heap.size w w' := by
  have HK := hide hk
  clear hk
  by_cases c : k ≤ 16
  · have HV := hide (cos_small k c)
    go_enter Tryd.func33, Tryd.ntmps33
    go_wp2_with fail
    refine (rrest64 r _ hr).mono ?_
    rintro e w1 ⟨rfl, rfl⟩
    rw [unhide HK]
    go_wp2_with fail
    refine (rquarter_any k _ c).mono ?_
    rintro e w2 ⟨rfl, hb⟩
    go_wp2
    go_ret
    exact ⟨ret_int (unhide HV).symm, hb⟩
  · obtain ⟨j, hj, rfl⟩ : ∃ j : Nat, j ≤ 16 ∧ k = 32 - j := ⟨32 - k, by omega, by omega⟩
    have HV := hide (cos_half j hj)
    have hb := quar_bd j hj
    have e1 : (32 : Int) - ((32 - j : Nat) : Int) = j := by omega
    have E1 := hide e1
    clear e1
    go_enter Tryd.func33, Tryd.ntmps33
    go_wp2_with fail
    refine (rrest64 r _ hr).mono ?_
    rintro e w1 ⟨rfl, rfl⟩
    rw [unhide HK]
    go_wp2_with fail
    rw [unhide E1]
    refine (rquarter_any j _ hj).mono ?_
    rintro e w2 ⟨rfl, hb2⟩
    go_wp2
    go_ret
    exact ⟨ret_int (unhide HV).symm, hb2⟩

theorem rcos_any (r : Int) (w : World) (hr : In64 r) :
    Calls Tryd.prog 33 #[.int .i64 r] w fun e w' => e = .returned (.int .i64 (cosI r)) ∧ Below w.heap.size w w' := by
  obtain ⟨k, hk⟩ : ∃ k : Nat, r % 64 = k := ⟨(r % 64).toNat, by omega⟩
  have h64 : k < 64 := by omega
  have HV := hide (show cosAt k = cosI r by unfold cosI; congr 1; omega)
  by_cases c : k ≤ 32
  · rw [← unhide HV]
    exact rcos_low r k w hr hk c
  · obtain ⟨j, hj, hj1, rfl⟩ : ∃ j : Nat, j ≤ 31 ∧ 1 ≤ j ∧ k = 64 - j := ⟨64 - k, by omega, by omega, by omega⟩
    have HW := hide (cos_back j hj hj1)
    have e1 : (64 : Int) - ((64 - j : Nat) : Int) = j := by omega
    have E1 := hide e1
    have HK := hide hk
    clear e1 hk
    go_enter Tryd.func33, Tryd.ntmps33
    go_wp2_with fail
    refine (rrest64 r _ hr).mono ?_
    rintro e w1 ⟨rfl, rfl⟩
    rw [unhide HK]
    go_wp2_with fail
    rw [unhide E1]
    refine (rcos_low j j _ (by unfold In64; omega) (by omega) (by omega)).mono ?_
    rintro e w2 ⟨rfl, hb2⟩
    go_wp2
    go_ret
    exact ⟨ret_int ((unhide HW).symm.trans (unhide HV)), hb2⟩

theorem rsin_any (k : Int) (w : World) (hk : In64 k) :
    Calls Tryd.prog 34 #[.int .i64 k] w fun e w' => e = .returned (.int .i64 (sinI k)) ∧ Below w.heap.size w w' := by
  have HV := hide (sinI_mod k)
  have h1 : 0 ≤ k % 64 := by omega
  have h2 : k % 64 < 64 := by omega
  go_enter Tryd.func34, Tryd.ntmps34
  go_wp2_with fail
  refine (rrest64 k _ hk).mono ?_
  rintro e w1 ⟨rfl, rfl⟩
  go_wp2_with fail
  refine (rcos_any (k % 64 - 16) _ (by unfold In64; omega)).mono ?_
  rintro e w2 ⟨rfl, hb2⟩
  go_wp2
  go_ret
  exact ⟨ret_int (unhide HV), hb2⟩

/-- The document's Same, of two rows that hold the same numbers. -/
theorem same_any (a b : Option Addr) (cap cap' : Nat) (xs : List Int) (n : Nat) (hn : xs.length = n) (hm : n ≤ 1000000) (w : World) (ha : Lies w a xs) (hb : Lies w b xs) :
    Calls Tryd.prog 12 #[.slice a n cap, .slice b n cap'] w fun e w' => e = .returned (.bool true) ∧ Below w.heap.size w w' := by
  have HA := hide ha
  have HB := hide hb
  have HN := hide hn
  clear ha hb hn
  go_enter Tryd.func12, Tryd.ntmps12
  go_wp2
  go_loopw [5] (fun i wr => ∃ k : Nat, k ≤ n ∧ i = .int .i64 k ∧ Hid (Below w.heap.size w wr))
    (fun i _ => n - (intOf i).toNat)
  case atStart => exact ⟨0, Nat.zero_le _, rfl, Below.refl _ _⟩
  case round =>
    obtain ⟨k, hk, rfl, HBr⟩ := hrel
    by_cases c : k < n
    · obtain ⟨ba, oa, rfl, hlta, hca⟩ : ∃ b off, a = some ⟨b, off, none⟩ ∧ b < w.heap.size ∧ ∀ j, j < xs.length → w.cell? ⟨b, off + j, none⟩ = some (.int .i64 (xs.getD j 0)) := by
        rcases unhide HA with h | h
        · have := unhide HN; subst h; simp at this; omega
        · exact h
      obtain ⟨bb, ob, rfl, hltb, hcb⟩ : ∃ b' off, b = some ⟨b', off, none⟩ ∧ b' < w.heap.size ∧ ∀ j, j < xs.length → w.cell? ⟨b', off + j, none⟩ = some (.int .i64 (xs.getD j 0)) := by
        rcases unhide HB with h | h
        · have := unhide HN; subst h; simp at this; omega
        · exact h
      have hc1 : wr.cell? ⟨ba, oa + k, none⟩ = some (.int .i64 (xs.getD k 0)) := by rw [(unhide HBr).cell (p := ⟨ba, _, none⟩) hlta]; exact hca k (by rw [unhide HN]; exact c)
      have hc2 : wr.cell? ⟨bb, ob + k, none⟩ = some (.int .i64 (xs.getD k 0)) := by rw [(unhide HBr).cell (p := ⟨bb, _, none⟩) hltb]; exact hcb k (by rw [unhide HN]; exact c)
      clear hca hcb HA HB
      generalize xs.getD k 0 = z at hc1 hc2
      go_wp2
      go_region
      all_goals go_wp2
      go_roundw
      case rel => exact ⟨k + 1, by omega, by go_num, (unhide HBr).drew⟩
      case measure => simp [intOf]; omega
    · go_wp2
      go_ret
      exact ⟨rfl, unhide HBr⟩

/-- A row that is not empty: where it lies. -/
theorem Lies.some {w : World} {a : Option Addr} {xs : List Int} (h : Lies w a xs) (h0 : xs ≠ []) :
    ∃ b off, a = some ⟨b, off, none⟩ ∧ b < w.heap.size ∧ ∀ j, j < xs.length → w.cell? ⟨b, off + j, none⟩ = some (.int .i64 (xs.getD j 0)) := by
  rcases h with h | h
  · exact absurd h h0
  · exact h

theorem cosI_of (k : Int) (r : Nat) (h : k % 64 = r) : cosI k = cosAt r := by unfold cosI; congr 1; omega

def sinAt (r : Nat) : Int := cosAt ((r + 48) % 64)

theorem sinI_of (k : Int) (r : Nat) (h : k % 64 = r) : sinI k = sinAt r := by unfold sinI sinAt; exact cosI_of _ _ (by omega)

theorem turn_at (r : Nat) (h : r < 64) : cosAt ((r + 32) % 64) = -cosAt r ∧ sinAt ((r + 32) % 64) = -sinAt r ∧ cosAt ((64 - r) % 64) = cosAt r ∧ sinAt ((64 - r) % 64) = -sinAt r ∧ sinAt ((r + 16) % 64) = cosAt r := by
  have : ∀ r, r < 64 → cosAt ((r + 32) % 64) = -cosAt r ∧ sinAt ((r + 32) % 64) = -sinAt r ∧ cosAt ((64 - r) % 64) = cosAt r ∧ sinAt ((64 - r) % 64) = -sinAt r ∧ sinAt ((r + 16) % 64) = cosAt r := by decide +kernel
  exact this r h

theorem turn_any (x : Int) : cosI (x + 32) = -cosI x ∧ sinI (x + 32) = -sinI x ∧ cosI (-x) = cosI x ∧ sinI (-x) = -sinI x ∧ sinI (x + 16) = cosI x := by
  obtain ⟨r, hr⟩ : ∃ r : Nat, x % 64 = r := ⟨(x % 64).toNat, by omega⟩
  have h := turn_at r (by omega)
  rw [cosI_of x r hr, sinI_of x r hr, cosI_of (x + 32) ((r + 32) % 64) (by omega), sinI_of (x + 32) ((r + 32) % 64) (by omega), cosI_of (-x) ((64 - r) % 64) (by omega), sinI_of (-x) ((64 - r) % 64) (by omega), sinI_of (x + 16) ((r + 16) % 64) (by omega)]
  exact h

theorem round_any (x m : Int) : cosI (x + 64 * m) = cosI x ∧ sinI (x + 64 * m) = sinI x := by
  unfold sinI cosI
  exact ⟨by congr 2; omega, by congr 2; omega⟩

theorem sinI_bd (k : Int) : -16384 ≤ sinI k ∧ sinI k ≤ 16384 := cosI_bd _

theorem drewn_below {B : Nat} {a w : World} (h : Below B a w) (n : Nat) : Below B a (w.drewN n) := h.trans ⟨rfl, rfl, rfl, Nat.le_refl _, fun _ _ => rfl⟩

/-- The bytes of a text. -/
def B (s : ByteArray) : List UInt8 := s.data.toList

theorem two_cells {w1 : World} {n : Nat} {u v : Value} {t : TypeId} (a b : Value) (h : w1.heap[n]? = some (.cells #[u, v] t (0, 0))) :
    ((w1.setCell ⟨n, 0, none⟩ a).setCell ⟨n, 1, none⟩ b).cell? ⟨n, 0, none⟩ = some a ∧ ((w1.setCell ⟨n, 0, none⟩ a).setCell ⟨n, 1, none⟩ b).cell? ⟨n, 1, none⟩ = some b := by
  simp [World.setCell, World.cell?, Array.getElem?_modify, h]

theorem filter_lt {l : List Nat} {p q : Nat → Bool} (h : ∀ j, q j = true → p j = true) {i : Nat} (hi : i ∈ l) (hp : p i = true) (hq : q i = false) : (l.filter q).length < (l.filter p).length := by
  have hle : ∀ m : List Nat, (m.filter q).length ≤ (m.filter p).length := by
    intro m
    induction m with
    | nil => exact Nat.le_refl _
    | cons x m ih =>
      by_cases hx : q x = true
      · rw [List.filter_cons_of_pos hx, List.filter_cons_of_pos (h x hx)]; simp; exact ih
      · rw [List.filter_cons_of_neg hx]
        by_cases hx' : p x = true
        · rw [List.filter_cons_of_pos hx']; simp; omega
        · rw [List.filter_cons_of_neg hx']; exact ih
  induction l with
  | nil => simp at hi
  | cons x m ih =>
    rcases List.mem_cons.1 hi with rfl | hi
    · rw [List.filter_cons_of_neg (by simp [hq]), List.filter_cons_of_pos hp]
      have := hle m
      simp
      omega
    · have := ih hi
      by_cases hx : q x = true
      · rw [List.filter_cons_of_pos hx, List.filter_cons_of_pos (h x hx)]; simp; exact this
      · rw [List.filter_cons_of_neg hx]
        by_cases hx' : p x = true
        · rw [List.filter_cons_of_pos hx']; simp; omega
        · rw [List.filter_cons_of_neg hx']; exact this

/-- How many have not come up. -/
def leftN (ops : Array Oper) (listed : Array Bool) : Nat := ((List.range ops.size).filter fun i => !listed.getD i true).length

theorem any_inv {P : Program} {ops : Array Oper} {Q : Exit → Act → World → Prop} {md : Region.Mode} (Inv : Array Bool → Act → World → Prop)
    (hstep : ∀ listed a w i, Inv listed a w → i ∈ Region.ready md ops listed → wpOp P ops Q i (fun a' w' => Inv (listed.setIfInBounds i true) a' w') a w)
    (hend : ∀ listed a w, Inv listed a w → Region.ready md ops listed = [] → Q .normal a w) :
    ∀ fuel listed a w, leftN ops listed ≤ fuel → Inv listed a w → wpAny P md ops Q fuel listed a w := by
  intro fuel
  induction fuel with
  | zero =>
    intro listed a w hl hI
    have hr : Region.ready md ops listed = [] := by
      apply List.eq_nil_iff_forall_not_mem.2
      intro i hi
      obtain ⟨h0, o, ho, _⟩ := mem_ready.1 hi
      have hlt : i < ops.size := (Array.getElem?_eq_some_iff.1 ho).1
      have h1 : i ∈ (List.range ops.size).filter fun i => !listed.getD i true := List.mem_filter.2 ⟨List.mem_range.2 hlt, by rw [h0]; rfl⟩
      have h2 : (List.range ops.size).filter (fun i => !listed.getD i true) = [] := List.length_eq_zero_iff.1 (Nat.le_zero.1 hl)
      rw [h2] at h1
      simp at h1
    exact ⟨hr, hend _ _ _ hI hr⟩
  | succ fuel ih =>
    intro listed a w hl hI
    refine ⟨hend _ _ _ hI, fun i hi => ?_⟩
    obtain ⟨h0, o, ho, _⟩ := mem_ready.1 hi
    have hlt : i < ops.size := (Array.getElem?_eq_some_iff.1 ho).1
    refine wpOp_mono (fun a' w' h' => ih _ a' w' ?_ h') (hstep _ _ _ _ hI hi)
    have hlist : i < listed.size := by
      rcases Nat.lt_or_ge i listed.size with h | h
      · exact h
      · rw [Array.getD_eq_getD_getElem?, Array.getElem?_eq_none h] at h0; simp at h0
    have := filter_lt (l := List.range ops.size) (p := fun i => !listed.getD i true) (q := fun j => !(listed.setIfInBounds i true).getD j true) (by
      intro j hj
      by_cases e : i = j
      · subst e
        rw [Array.getD_eq_getD_getElem?, Array.getElem?_setIfInBounds] at hj
        simp [hlist] at hj
      · rw [getD_set_ne true e] at hj
        exact hj) (List.mem_range.2 hlt) (by show (!listed.getD i true) = true; rw [h0]; rfl) (by
      show (!(listed.setIfInBounds i true).getD i true) = false
      rw [Array.getD_eq_getD_getElem?, Array.getElem?_setIfInBounds]
      simp [hlist])
    have h2 : leftN ops listed = ((List.range ops.size).filter fun i => !listed.getD i true).length := rfl
    have h3 : leftN ops (listed.setIfInBounds i true) = ((List.range ops.size).filter fun j => !(listed.setIfInBounds i true).getD j true).length := rfl
    omega

/-- Slots that the region does not write are as they were. -/
def KeptF (ops : Array Oper) (a0 a : Act) : Prop :=
  a.defers = a0.defers ∧ a.tmps.size = a0.tmps.size ∧ ∀ s, (ops.any fun o => o.dst == some s) = false → a.tmps.getD s undef = a0.tmps.getD s undef

/-- The slot of operation j. -/
def dstOf (ops : Array Oper) (j : Nat) : Option Tmp := (ops[j]?).bind (·.dst)

theorem put_size (a : Act) (d : Option Tmp) (v : Value) : (a.put d v).tmps.size = a.tmps.size := by
  cases d <;> simp [Act.put]

theorem put_defers' (a : Act) (d : Option Tmp) (v : Value) : (a.put d v).defers = a.defers := by
  cases d <;> rfl

theorem put_at (a : Act) (d : Tmp) (v : Value) (h : d < a.tmps.size) : (a.put (some d) v).tmps.getD d undef = v := by
  simp [Act.put, Array.getD_eq_getD_getElem?, h]

theorem put_off (a : Act) (d : Option Tmp) (s : Tmp) (v : Value) (h : d ≠ some s) : (a.put d v).tmps.getD s undef = a.tmps.getD s undef := by
  cases d with
  | none => rfl
  | some d =>
    have : d ≠ s := fun e => h (by rw [e])
    simp [Act.put, Array.getD_eq_getD_getElem?, this]

/-- THE LAW. S: what holds of the world all along; G j v w: v is right for operation j in the world w. -/
theorem region_ssa {P : Program} {ops : Array Oper} {Q : Exit → Act → World → Prop} {id : Nat} {a0 : Act} {w0 : World} (S : World → Prop) (G : Nat → Value → World → Prop)
    (hm : P.follows .mixedOrders = true)
    (hone : ∀ i j, i < ops.size → j < ops.size → i ≠ j → dstOf ops i ≠ none → dstOf ops i ≠ dstOf ops j)
    (hfit : ∀ j d, dstOf ops j = some d → d < a0.tmps.size)
    (hback : ∀ (i : Nat) (o : Oper), ops[i]? = some o → ∀ e ∈ o.after, e.on < i)
    (hstep : ∀ (i : Nat) (o : Oper), ops[i]? = some o → ∀ a w, S w → KeptF ops a0 a → (∀ e ∈ o.after, Region.binds .any e = true → ∀ d, dstOf ops e.on = some d → G e.on (a.tmps.getD d undef) w) →
      wpOp P ops Q i (fun a' w' => ∃ v, a' = a.put o.dst v ∧ S w' ∧ (∀ j u, G j u w → G j u w') ∧ G i v w') a w)
    (hend : ∀ a w, S w → KeptF ops a0 a → (∀ j d, j < ops.size → dstOf ops j = some d → G j (a.tmps.getD d undef) w) → Q .normal a w)
    (hS : S { w0 with drawn := w0.drawn + 1 }) : (Code.region id ops true).wp P Q a0 w0 := by
  refine wp_region_any hm (any_inv (fun listed a w => listed.size = ops.size ∧ S w ∧ KeptF ops a0 a ∧ ∀ j d, j < ops.size → listed.getD j true = true → dstOf ops j = some d → G j (a.tmps.getD d undef) w) ?_ ?_ _ _ _ _ ?_ ?_)
  · rintro listed a w i ⟨hsz, hSw, hK, hG⟩ hi
    obtain ⟨h0, o, ho, hall⟩ := mem_ready.1 hi
    have hio : dstOf ops i = o.dst := by unfold dstOf; rw [ho]; rfl
    have hilt : i < ops.size := (Array.getElem?_eq_some_iff.1 ho).1
    refine wpOp_mono ?_ (hstep i o ho a w hSw hK (fun e he hb d hd => ?_))
    · rintro a' w' ⟨v, rfl, hS', hmono, hGv⟩
      refine ⟨by simpa using hsz, hS', ⟨by rw [put_defers']; exact hK.1, by rw [put_size]; exact hK.2.1, fun s hs => ?_⟩, fun j d hj hl hd => ?_⟩
      · rw [put_off _ _ _ _ (fun e => ?_)]
        · exact hK.2.2 s hs
        · have := Array.any_eq_false.1 hs i hilt
          rw [Array.getElem?_eq_getElem hilt] at ho
          rw [Option.some.inj ho, e] at this
          simp at this
      · by_cases e : i = j
        · subst e
          rw [hio] at hd
          rw [hd, put_at _ _ _ (by rw [hK.2.1]; exact hfit i d (by rw [hio]; exact hd))]
          exact hGv
        · rw [getD_set_ne true e] at hl
          rw [put_off _ _ _ _ (fun e' => ?_)]
          · exact hmono _ _ (hG j d hj hl hd)
          · rw [← hio] at e'
            exact hone i j hilt hj e (by rw [e']; simp) (by rw [e', hd])
    · have hon := hback i o ho e he
      have hl := hall e he hb
      refine hG e.on d (by omega) ?_ hd
      have hlt : e.on < listed.size := by omega
      rw [Array.getD_eq_getD_getElem?, Array.getElem?_eq_getElem hlt] at hl ⊢
      simpa using hl
  · rintro listed a w ⟨hsz, hSw, hK, hG⟩ hr
    have hall : ∀ n j, j < n → j < ops.size → listed.getD j true = true := by
      intro n
      induction n with
      | zero => intro j hj; omega
      | succ n ih =>
        intro j hj hjs
        cases hb : listed.getD j true with
        | true => rfl
        | false =>
          exfalso
          have hmem : j ∈ Region.ready .any ops listed := mem_ready.2 ⟨hb, ops[j], Array.getElem?_eq_getElem hjs, fun e he _ => by
            have hon := hback j _ (Array.getElem?_eq_getElem hjs) e he
            have h1 := ih e.on (by omega) (by omega)
            have hlt : e.on < listed.size := by omega
            rw [Array.getD_eq_getD_getElem?, Array.getElem?_eq_getElem hlt] at h1 ⊢
            simpa using h1⟩
          rw [hr] at hmem
          simp at hmem
    exact hend a w hSw hK (fun j d hj hd => hG j d hj (hall (j + 1) j (by omega) hj) hd)
  · unfold leftN
    refine Nat.le_trans (List.length_filter_le _ _) ?_
    simp
  · refine ⟨by simp, hS, ⟨rfl, rfl, fun _ _ => rfl⟩, fun j d hj hl hd => ?_⟩
    rw [Array.getD_eq_getD_getElem?, Array.getElem?_replicate, if_pos hj] at hl
    simp at hl

/-- The closed facts on the region: each slot is one operation's, lies in the frame, and who is waited for stands ahead. -/
def ssaOk (ops : Array Oper) (size : Nat) : Bool :=
  (List.range ops.size).all fun i =>
    ((List.range ops.size).all fun j => i == j || (dstOf ops i).isNone || dstOf ops i != dstOf ops j) &&
    ((dstOf ops i).all fun d => decide (d < size)) &&
    ((ops[i]?).all fun o => o.after.all fun e => decide (e.on < i))

theorem ssaOk_spec {ops : Array Oper} {size : Nat} (h : ssaOk ops size = true) :
    (∀ i j, i < ops.size → j < ops.size → i ≠ j → dstOf ops i ≠ none → dstOf ops i ≠ dstOf ops j) ∧ (∀ j d, dstOf ops j = some d → d < size) ∧ (∀ (i : Nat) (o : Oper), ops[i]? = some o → ∀ e ∈ o.after, e.on < i) := by
  unfold ssaOk at h
  rw [List.all_eq_true] at h
  refine ⟨fun i j hi hj hij hn => ?_, fun j d hd => ?_, fun i o ho e he => ?_⟩
  · have h1 := h i (List.mem_range.2 hi)
    simp only [Bool.and_eq_true, List.all_eq_true] at h1
    have h2 := h1.1.1 j (List.mem_range.2 hj)
    intro e
    cases hd : dstOf ops i with
    | none => exact hn hd
    | some d =>
      rw [← e] at h2
      simp [hij, hd] at h2
  · have hj : j < ops.size := by
      unfold dstOf at hd
      rcases Nat.lt_or_ge j ops.size with h' | h'
      · exact h'
      · rw [Array.getElem?_eq_none h'] at hd; simp at hd
    have h1 := h j (List.mem_range.2 hj)
    simp only [Bool.and_eq_true] at h1
    have h2 := h1.1.2
    rw [hd] at h2
    simpa using h2
  · have hi : i < ops.size := (Array.getElem?_eq_some_iff.1 ho).1
    have h1 := h i (List.mem_range.2 hi)
    simp only [Bool.and_eq_true] at h1
    have h2 := h1.2
    rw [ho] at h2
    simp only [Option.all_some, Array.all_eq_true_iff_forall_mem] at h2
    simpa using h2 e he

/-- THE LAW, the closed facts at once. -/
theorem region_ssa_ok {P : Program} {ops : Array Oper} {Q : Exit → Act → World → Prop} {id : Nat} {a0 : Act} {w0 : World} (S : World → Prop) (G : Nat → Value → World → Prop)
    (hm : P.follows .mixedOrders = true) (hok : ssaOk ops a0.tmps.size = true) (hS : S w0.drew)
    (hstep : ∀ (i : Nat) (o : Oper), ops[i]? = some o → ∀ a w, S w → KeptF ops a0 a → (∀ e ∈ o.after, Region.binds .any e = true → ∀ d, dstOf ops e.on = some d → G e.on (a.tmps.getD d undef) w) →
      wpOp P ops Q i (fun a' w' => ∃ v, a' = a.put o.dst v ∧ S w' ∧ (∀ j u, G j u w → G j u w') ∧ G i v w') a w)
    (hend : ∀ a w, S w → KeptF ops a0 a → (∀ j d, j < ops.size → dstOf ops j = some d → G j (a.tmps.getD d undef) w) → Q .normal a w) : (Code.region id ops true).wp P Q a0 w0 :=
  region_ssa S G hm (ssaOk_spec hok).1 (ssaOk_spec hok).2.1 (ssaOk_spec hok).2.2 hstep hend hS

theorem wanted_none {ops : Array Oper} {o : Oper} {a : Act} (h : o.guard = none) : Region.wanted o (yielded ops a.tmps) = true := by
  unfold Region.wanted; rw [h]

theorem wanted_some {ops : Array Oper} {o : Oper} {a : Act} {j d : Nat} {b : Bool} (h : o.guard = some (j, b)) (hd : dstOf ops j = some d) (hv : a.tmps.getD d undef = .bool b) : Region.wanted o (yielded ops a.tmps) = true := by
  have hy : yielded ops a.tmps j = some b := by
    unfold dstOf at hd
    unfold yielded
    rw [hd]
    rw [Array.getD_eq_getD_getElem?] at hv
    cases hx : a.tmps[d]? with
    | none => rw [hx] at hv; simp [undef] at hv
    | some x => rw [hx] at hv; simp at hv; subst hv; simp [hx]
  unfold Region.wanted
  rw [h]
  simp [hy]

/-- An operation that yields a value. -/
theorem wpOp_val {P : Program} {ops : Array Oper} {Q : Exit → Act → World → Prop} {i : Nat} {o : Oper} {K : Act → World → Prop} {a : Act} {w w' : World} {v : Value} (ho : ops[i]? = some o)
    (hw : Region.wanted o (yielded ops a.tmps) = true) (hx : (execOp a.eval o).run P w = .ok (.value v) w') (h : K (a.put o.dst v) w') : wpOp P ops Q i K a w := by
  unfold wpOp
  simp only [ho, hw, if_true]
  left
  unfold Oper.wp
  rw [hx]
  exact h

/-- An operation that calls. -/
theorem wpOp_call {P : Program} {ops : Array Oper} {Q : Exit → Act → World → Prop} {i : Nat} {o : Oper} {K : Act → World → Prop} {a : Act} {w w' : World} {f : FuncId} {args : Array Value} (ho : ops[i]? = some o)
    (hw : Region.wanted o (yielded ops a.tmps) = true) (hx : (execOp a.eval o).run P w = .ok (.enter f args) w') (h : Calls P f args w' fun e w'' => ∃ v, e = .returned v ∧ K (a.put o.dst v) w'') : wpOp P ops Q i K a w := by
  unfold wpOp
  simp only [ho, hw, if_true]
  left
  unfold Oper.wp
  rw [hx]
  show Calls P f args w' _
  refine Calls.mono h ?_
  rintro e w'' ⟨v, rfl, hk⟩
  exact hk

/-- All blocks but c are as they were. -/
structure Only (c : Nat) (w w' : World) : Prop where
  os : w'.os = w.os
  tape : w'.tape = w.tape
  output : w'.output = w.output
  size : w.heap.size ≤ w'.heap.size
  block : ∀ k, k < w.heap.size → k ≠ c → w'.heap[k]? = w.heap[k]?

theorem Only.refl (c : Nat) (w : World) : Only c w w := ⟨rfl, rfl, rfl, Nat.le_refl _, fun _ _ _ => rfl⟩

theorem Only.trans {c : Nat} {a b d : World} (h : Only c a b) (k : Only c b d) : Only c a d :=
  ⟨k.os.trans h.os, k.tape.trans h.tape, k.output.trans h.output, Nat.le_trans h.size k.size, fun i hi hc => (k.block i (Nat.lt_of_lt_of_le hi h.size) hc).trans (h.block i hi hc)⟩

theorem Only.of_below {c : Nat} {w w' : World} (h : Below w.heap.size w w') : Only c w w' := ⟨h.os, h.tape, h.output, h.size, fun k hk _ => h.block k hk⟩

theorem Only.alloc {c : Nat} {a w : World} (h : Only c a w) (o : Obj) : Only c a (w.alloc o) := h.trans (Only.of_below ((Below.refl _ w).alloc (Nat.le_refl _) o))

theorem Only.setCell {c : Nat} {a w : World} (h : Only c a w) {p : Addr} (hp : p.block = c) (u : Value) : Only c a (w.setCell p u) :=
  h.trans ⟨rfl, rfl, rfl, by simp [World.setCell], fun k _ hc => Below.heap_setCell _ _ _ _ (by omega)⟩

theorem Only.setNew {c : Nat} {a w : World} (h : Only c a w) {p : Addr} (hp : a.heap.size ≤ p.block) (u : Value) : Only c a (w.setCell p u) :=
  ⟨h.os, h.tape, h.output, by have := h.size; simpa [World.setCell] using this, fun k hk hc => by rw [Below.heap_setCell _ _ _ _ (by omega)]; exact h.block k hk hc⟩

theorem Only.drew {c : Nat} {a w : World} (h : Only c a w) : Only c a w.drew := ⟨h.os, h.tape, h.output, h.size, h.block⟩

theorem Only.below {c B : Nat} {w w' : World} (h : Only c w w') (h1 : B ≤ c) (h2 : B ≤ w.heap.size) : Below B w w' := ⟨h.os, h.tape, h.output, h.size, fun k hk => h.block k (by omega) (by omega)⟩

theorem Only.fresh {w w' : World} {o : Obj} (h : Only w.heap.size (w.alloc o) w') : Below w.heap.size w w' :=
  ((Below.refl _ w).alloc (Nat.le_refl _) o).trans (h.below (Nat.le_refl _) (by simp))

/-- A block of cells of its own. -/
def Cells (w : World) (c : Nat) (l : List Value) : Prop := ∃ t, w.heap[c]? = some (.cells l.toArray t (0, 0))

theorem Cells.lt {w : World} {c : Nat} {l : List Value} (h : Cells w c l) : c < w.heap.size := by
  obtain ⟨t, h⟩ := h
  exact (Array.getElem?_eq_some_iff.1 h).1

theorem Cells.cell {w : World} {c : Nat} {l : List Value} (h : Cells w c l) (i : Nat) (x : Value) (hx : l[i]? = some x) : w.cell? ⟨c, i, none⟩ = some x := by
  obtain ⟨t, h⟩ := h
  unfold World.cell?
  rw [h]
  simpa using hx

theorem Cells.free {w : World} {c : Nat} {l : List Value} (h : Cells w c l) (i : Nat) : w.frozen? ⟨c, i, none⟩ = false := by
  obtain ⟨t, h⟩ := h
  unfold World.frozen?
  rw [h]
  simp

theorem Cells.set {w : World} {c : Nat} {l : List Value} (h : Cells w c l) (i : Nat) (x : Value) : Cells (w.setCell ⟨c, i, none⟩ x) c (l.set i x) := by
  obtain ⟨t, h⟩ := h
  exact ⟨t, by simp [World.setCell, Array.getElem?_modify, h]⟩

theorem Cells.only {w w' : World} {c g : Nat} {l : List Value} (h : Cells w g l) (hb : Only c w w') (hg : g ≠ c) : Cells w' g l := by
  have hl := h.lt
  obtain ⟨t, h⟩ := h
  exact ⟨t, by rw [hb.block g hl hg]; exact h⟩

theorem Cells.below {w w' : World} {g : Nat} {l : List Value} (h : Cells w g l) (hb : Below w.heap.size w w') : Cells w' g l := by
  have hl := h.lt
  obtain ⟨t, h⟩ := h
  exact ⟨t, by rw [hb.block g hl]; exact h⟩

theorem Cells.alloc {w : World} {g : Nat} {l : List Value} (h : Cells w g l) (o : Obj) : Cells (w.alloc o) g l := h.below ((Below.refl _ w).alloc (Nat.le_refl _) o)

theorem Cells.drew {w : World} {g : Nat} {l : List Value} (h : Cells w g l) : Cells w.drew g l := h

theorem cells_new (w : World) (l : List Value) (t : TypeId) : Cells (w.alloc (.cells l.toArray t)) w.heap.size l := ⟨t, by
  show (w.heap.push _)[w.heap.size]? = _
  simp⟩

theorem Lies.only {w w' : World} {c : Nat} {a : Option Addr} {xs : List Int} (h : Lies w a xs) (ho : Only c w w') (hne : xs ≠ [] → ∀ p, a = Option.some p → p.block ≠ c) : Lies w' a xs := by
  rcases h with h | ⟨b, off, rfl, hb, hc⟩
  · exact .inl h
  · refine .inr ⟨b, off, rfl, Nat.lt_of_lt_of_le hb ho.size, fun j hj => ?_⟩
    have : w'.cell? ⟨b, off + j, none⟩ = w.cell? ⟨b, off + j, none⟩ := World.cell?_of_block (ho.block b hb (hne (by rintro rfl; simp at hj) _ rfl))
    rw [this]
    exact hc j hj

theorem Lies.ne {w : World} {c : Nat} {a : Option Addr} {xs : List Int} (h : Lies w a xs) (hc : w.heap.size ≤ c) : xs ≠ [] → ∀ p, a = Option.some p → p.block ≠ c := by
  intro h0 p hp
  rcases h with h | ⟨b, off, rfl, hb, _⟩
  · exact absurd h h0
  · cases hp
    show b ≠ c
    omega

theorem below_drewN (w : World) (n : Nat) : Below w.heap.size w (w.drewN n) := ⟨rfl, rfl, rfl, Nat.le_refl _, fun _ _ => rfl⟩

def upd (f : Nat → Bool) (i : Nat) : Nat → Bool := fun j => bif Nat.beq j i then true else f j

/-- The first n operations' values, put. -/
def putAll (ops : Array Oper) (vals : Nat → Value) : Nat → Act → Act
  | 0, a => a
  | n + 1, a => (putAll ops vals n a).put (dstOf ops n) (vals n)

theorem putAll_size (ops : Array Oper) (vals : Nat → Value) (a : Act) : ∀ n, (putAll ops vals n a).tmps.size = a.tmps.size
  | 0 => rfl
  | n + 1 => by show ((putAll ops vals n a).put _ _).tmps.size = _; rw [put_size, putAll_size ops vals a n]

theorem putAll_defers (ops : Array Oper) (vals : Nat → Value) (a : Act) : ∀ n, (putAll ops vals n a).defers = a.defers
  | 0 => rfl
  | n + 1 => by show ((putAll ops vals n a).put _ _).defers = _; rw [put_defers', putAll_defers ops vals a n]

theorem putAll_off (ops : Array Oper) (vals : Nat → Value) (a : Act) (s : Tmp) : ∀ n, (∀ i, i < n → dstOf ops i ≠ some s) → (putAll ops vals n a).tmps.getD s undef = a.tmps.getD s undef
  | 0, _ => rfl
  | n + 1, h => by
    show ((putAll ops vals n a).put _ _).tmps.getD s undef = _
    rw [put_off _ _ _ _ (h n (by omega)), putAll_off ops vals a s n (fun i hi => h i (by omega))]

theorem putAll_at (ops : Array Oper) (vals : Nat → Value) (a : Act) (s : Tmp) (hs : s < a.tmps.size) (hone : ∀ i j, i < ops.size → j < ops.size → i ≠ j → dstOf ops i ≠ none → dstOf ops i ≠ dstOf ops j) (j : Nat) (hd : dstOf ops j = some s) :
    ∀ n, j < n → n ≤ ops.size → (putAll ops vals n a).tmps.getD s undef = vals j
  | 0, h, _ => by omega
  | n + 1, h, hn => by
    show ((putAll ops vals n a).put _ _).tmps.getD s undef = _
    by_cases e : j = n
    · subst e
      rw [hd, put_at _ _ _ (by rw [putAll_size]; exact hs)]
    · rw [put_off _ _ _ _ (fun e' => hone j n (by omega) (by omega) e (by rw [hd]; simp) (by rw [hd, e'])), putAll_at ops vals a s hs hone j hd n (by omega) (by omega)]

theorem getD_ext {x y : Array Value} (hs : x.size = y.size) (h : ∀ s, s < x.size → x.getD s undef = y.getD s undef) : x = y := by
  apply Array.ext hs
  intro i h1 h2
  have := h i h1
  simpa [Array.getD_eq_getD_getElem?, h1, h2] using this

theorem act_ext {a b : Act} (h1 : a.tmps = b.tmps) (h2 : a.defers = b.defers) : a = b := by cases a; cases b; simp at h1 h2; rw [h1, h2]

theorem region_ssa2 {P : Program} {ops : Array Oper} {Q : Exit → Act → World → Prop} {id : Nat} {a0 : Act} {w0 : World} (S : (Nat → Bool) → World → Prop) (G : Nat → Value → World → Prop)
    (hm : P.follows .mixedOrders = true) (hok : ssaOk ops a0.tmps.size = true)
    (hS : ∀ f, (∀ j, j < ops.size → f j = false) → S f w0.drew)
    (hstep : ∀ (i : Nat) (o : Oper), ops[i]? = some o → ∀ f a w, f i = false → (∀ j o', ops[j]? = some o' → f j = true → ∀ e ∈ o'.after, Region.binds .any e = true → f e.on = true) → S f w → KeptF ops a0 a → (∀ e ∈ o.after, Region.binds .any e = true → f e.on = true ∧ ∀ d, dstOf ops e.on = some d → G e.on (a.tmps.getD d undef) w) →
      wpOp P ops Q i (fun a' w' => ∃ v, a' = a.put o.dst v ∧ S (upd f i) w' ∧ (∀ j u, G j u w → G j u w') ∧ G i v w') a w)
    (hend : ∀ f w (vals : Nat → Value), (∀ j, j < ops.size → f j = true) → S f w → (∀ j d, j < ops.size → dstOf ops j = some d → G j (vals j) w) → Q .normal (putAll ops vals ops.size a0) w) : (Code.region id ops true).wp P Q a0 w0 := by
  obtain ⟨hone, hfit, hback⟩ := ssaOk_spec hok
  refine wp_region_any hm (any_inv (fun listed a w => listed.size = ops.size ∧ (∀ j o', ops[j]? = some o' → listed.getD j true = true → ∀ e ∈ o'.after, Region.binds .any e = true → listed.getD e.on true = true) ∧ S (fun j => listed.getD j true) w ∧ KeptF ops a0 a ∧ ∀ j d, j < ops.size → listed.getD j true = true → dstOf ops j = some d → G j (a.tmps.getD d undef) w) ?_ ?_ _ _ _ _ ?_ ?_)
  · rintro listed a w i ⟨hsz, hcl, hSw, hK, hG⟩ hi
    obtain ⟨h0, o, ho, hall⟩ := mem_ready.1 hi
    have hio : dstOf ops i = o.dst := by unfold dstOf; rw [ho]; rfl
    have hilt : i < ops.size := (Array.getElem?_eq_some_iff.1 ho).1
    have hmon : ∀ j, listed.getD j true = true → (listed.setIfInBounds i true).getD j true = true := by
      intro j hj
      by_cases e : i = j
      · subst e
        rw [hj] at h0
        cases h0
      · rw [getD_set_ne true e]; exact hj
    refine wpOp_mono ?_ (hstep i o ho _ a w h0 hcl hSw hK (fun e he hb => ?_))
    · rintro a' w' ⟨v, rfl, hS', hmono, hGv⟩
      refine ⟨by simpa using hsz, ?_, ?_, ⟨by rw [put_defers']; exact hK.1, by rw [put_size]; exact hK.2.1, fun s hs => ?_⟩, fun j d hj hl hd => ?_⟩
      · intro j o' ho' hj e he hb
        by_cases e' : i = j
        · subst e'
          rw [ho] at ho'
          cases ho'
          have hon := hback i o ho e he
          have hl := hall e he hb
          have hlt : e.on < listed.size := by omega
          refine hmon _ ?_
          rw [Array.getD_eq_getD_getElem?, Array.getElem?_eq_getElem hlt] at hl ⊢
          simpa using hl
        · rw [getD_set_ne true e'] at hj
          exact hmon _ (hcl j o' ho' hj e he hb)
      · have hf : (fun j => (listed.setIfInBounds i true).getD j true) = upd (fun j => listed.getD j true) i := by
          funext j
          by_cases e : i = j
          · subst e
            unfold upd
            rw [Array.getD_eq_getD_getElem?, Array.getElem?_setIfInBounds]
            simp [hsz, hilt]
          · rw [getD_set_ne true e]
            unfold upd
            have : Nat.beq j i = false := by
              cases hb : Nat.beq j i with
              | false => rfl
              | true => exact absurd (Nat.eq_of_beq_eq_true hb).symm e
            rw [this]
            rfl
        rw [hf]
        exact hS'
      · rw [put_off _ _ _ _ (fun e => ?_)]
        · exact hK.2.2 s hs
        · have := Array.any_eq_false.1 hs i hilt
          rw [Array.getElem?_eq_getElem hilt] at ho
          rw [Option.some.inj ho, e] at this
          simp at this
      · by_cases e : i = j
        · subst e
          rw [hio] at hd
          rw [hd, put_at _ _ _ (by rw [hK.2.1]; exact hfit i d (by rw [hio]; exact hd))]
          exact hGv
        · rw [getD_set_ne true e] at hl
          rw [put_off _ _ _ _ (fun e' => ?_)]
          · exact hmono _ _ (hG j d hj hl hd)
          · rw [← hio] at e'
            exact hone i j hilt hj e (by rw [e']; simp) (by rw [e', hd])
    · have hon := hback i o ho e he
      have hl := hall e he hb
      have hlt : e.on < listed.size := by omega
      have hl' : listed.getD e.on true = true := by
        rw [Array.getD_eq_getD_getElem?, Array.getElem?_eq_getElem hlt] at hl ⊢
        simpa using hl
      exact ⟨hl', fun d hd => hG e.on d (by omega) hl' hd⟩
  · rintro listed a w ⟨hsz, hcl, hSw, hK, hG⟩ hr
    have hall : ∀ n j, j < n → j < ops.size → listed.getD j true = true := by
      intro n
      induction n with
      | zero => intro j hj; omega
      | succ n ih =>
        intro j hj hjs
        cases hb : listed.getD j true with
        | true => rfl
        | false =>
          exfalso
          have hmem : j ∈ Region.ready .any ops listed := mem_ready.2 ⟨hb, ops[j], Array.getElem?_eq_getElem hjs, fun e he _ => by
            have hon := hback j _ (Array.getElem?_eq_getElem hjs) e he
            have h1 := ih e.on (by omega) (by omega)
            have hlt : e.on < listed.size := by omega
            rw [Array.getD_eq_getD_getElem?, Array.getElem?_eq_getElem hlt] at h1 ⊢
            simpa using h1⟩
          rw [hr] at hmem
          simp at hmem
    have hl : ∀ j, j < ops.size → listed.getD j true = true := fun j hj => hall (j + 1) j (by omega) hj
    obtain ⟨vals, hv⟩ : ∃ vals : Nat → Value, ∀ j, vals j = (match dstOf ops j with | some d => a.tmps.getD d undef | none => undef) := ⟨_, fun _ => rfl⟩
    have hA : a = putAll ops vals ops.size a0 := by
      refine act_ext (getD_ext (by rw [putAll_size]; exact hK.2.1) (fun s hs => ?_)) (by rw [putAll_defers]; exact hK.1)
      by_cases hx : ∃ j, j < ops.size ∧ dstOf ops j = some s
      · obtain ⟨j, hj, hd⟩ := hx
        rw [putAll_at ops vals a0 s (by rw [← hK.2.1]; exact hs) hone j hd _ hj (Nat.le_refl _), hv j, hd]
      · rw [putAll_off ops vals a0 s _ (fun i hi e => hx ⟨i, hi, e⟩)]
        refine hK.2.2 s (Array.any_eq_false.2 (fun i hi => ?_))
        intro e
        refine hx ⟨i, hi, ?_⟩
        unfold dstOf
        rw [Array.getElem?_eq_getElem hi]
        simpa using e
    rw [hA]
    refine hend _ w vals hl hSw (fun j d hj hd => ?_)
    rw [hv j, hd]
    exact hG j d hj (hl j hj) hd
  · unfold leftN
    refine Nat.le_trans (List.length_filter_le _ _) ?_
    simp
  · have hrep : ∀ j, j < ops.size → (Array.replicate ops.size false).getD j true = false := by
      intro j hj
      rw [Array.getD_eq_getD_getElem?, Array.getElem?_replicate, if_pos hj]
      rfl
    refine ⟨by simp, fun j o' ho' hj => by
      rw [hrep j (Array.getElem?_eq_some_iff.1 ho').1] at hj
      simp at hj, hS _ hrep, ⟨rfl, rfl, fun _ _ => rfl⟩, fun j d hj hl hd => ?_⟩
    rw [hrep j hj] at hl
    simp at hl

/-- All blocks but c and g are as they were. -/
structure Two (c g : Nat) (w w' : World) : Prop where
  os : w'.os = w.os
  tape : w'.tape = w.tape
  output : w'.output = w.output
  size : w.heap.size ≤ w'.heap.size
  block : ∀ k, k < w.heap.size → k ≠ c → k ≠ g → w'.heap[k]? = w.heap[k]?

theorem Two.refl (c g : Nat) (w : World) : Two c g w w := ⟨rfl, rfl, rfl, Nat.le_refl _, fun _ _ _ _ => rfl⟩

theorem Two.trans {c g : Nat} {a b d : World} (h : Two c g a b) (k : Two c g b d) : Two c g a d :=
  ⟨k.os.trans h.os, k.tape.trans h.tape, k.output.trans h.output, Nat.le_trans h.size k.size, fun i hi hc hg => (k.block i (Nat.lt_of_lt_of_le hi h.size) hc hg).trans (h.block i hi hc hg)⟩

theorem Two.of_below {c g : Nat} {w w' : World} (h : Below w.heap.size w w') : Two c g w w' := ⟨h.os, h.tape, h.output, h.size, fun k hk _ _ => h.block k hk⟩

theorem Two.of_left {c g : Nat} {w w' : World} (h : Only c w w') : Two c g w w' := ⟨h.os, h.tape, h.output, h.size, fun k hk hc _ => h.block k hk hc⟩

theorem Two.of_right {c g : Nat} {w w' : World} (h : Only g w w') : Two c g w w' := ⟨h.os, h.tape, h.output, h.size, fun k hk _ hg => h.block k hk hg⟩

theorem Two.below {c g B : Nat} {w w' : World} (h : Two c g w w') (h1 : B ≤ c) (h2 : B ≤ g) (h3 : B ≤ w.heap.size) : Below B w w' := ⟨h.os, h.tape, h.output, h.size, fun k hk => h.block k (by omega) (by omega) (by omega)⟩

theorem Only.setHere {c : Nat} {w : World} (i : Nat) (u : Value) : Only c w (w.setCell ⟨c, i, none⟩ u) := (Only.refl c w).setCell rfl u

theorem Cells.two {w w' : World} {c g k : Nat} {l : List Value} (h : Cells w k l) (hb : Two c g w w') (hc : k ≠ c) (hg : k ≠ g) : Cells w' k l := by
  have hl := h.lt
  obtain ⟨t, h⟩ := h
  exact ⟨t, by rw [hb.block k hl hc hg]; exact h⟩

theorem own_cells {w : World} {base n g : Nat} {xs : List Value} (h : w.ownsRow base 3 1 (.slice (some ⟨g, 0, none⟩) n n) n xs) : Cells w g xs := by
  rcases h.2 with ⟨h', _⟩ | ⟨g', cap, cur, h1, h2, h3, h4, h5, h6, h7⟩
  · cases h'
  · cases h1
    refine ⟨3, ?_⟩
    rw [h3, ← h7, List.take_of_length_le (by simp [h6])]

theorem Cells.inj {w : World} {c : Nat} {l m : List Value} (h : Cells w c l) (k : Cells w c m) : l = m := by
  obtain ⟨t, h⟩ := h
  obtain ⟨t', k⟩ := k
  rw [h] at k
  have := k
  simp at this
  exact this.1

/-- Numbers as cells. -/
def ints (L : List Int) : List Value := L.map (Value.int .i64)

theorem ints_at (L : List Int) (i : Nat) (h : i < L.length) : (ints L)[i]? = some (.int .i64 (L.getD i 0)) := by
  simp [ints, List.getD_eq_getElem?_getD, List.getElem?_eq_getElem h]

theorem ints_set (L : List Int) (i : Nat) (x : Int) : (ints L).set i (.int .i64 x) = ints (L.set i x) := by simp [ints, List.map_set]

theorem ints_zero (n : Nat) : (madeCells #[.int .i64 0] n).toList = ints (List.replicate n 0) := by
  rw [toList_madeCells_one]
  simp [ints]

theorem Cells.lies {w : World} {g : Nat} {L : List Int} (h : Cells w g (ints L)) : Lies w (some ⟨g, 0, none⟩) L := by
  refine .inr ⟨g, 0, rfl, h.lt, fun j hj => ?_⟩
  rw [Nat.zero_add]
  exact h.cell j _ (ints_at L j hj)

theorem Lies.under {w w' : World} {B : Nat} {a : Option Addr} {xs : List Int} (h : Lies w a xs) (hb : Below B w w') (hlt : ∀ p, a = Option.some p → p.block < B) : Lies w' a xs := by
  rcases h with h | ⟨b, off, rfl, hl, hc⟩
  · exact .inl h
  · refine .inr ⟨b, off, rfl, Nat.lt_of_lt_of_le hl hb.size, fun j hj => ?_⟩
    rw [hb.cell (p := ⟨b, off + j, none⟩) (hlt ⟨b, off, none⟩ rfl)]
    exact hc j hj

theorem Cells.under {w w' : World} {B c : Nat} {l : List Value} (h : Cells w c l) (hb : Below B w w') (hlt : c < B) : Cells w' c l := by
  obtain ⟨t, h⟩ := h
  exact ⟨t, by rw [hb.block c hlt]; exact h⟩

theorem Lies.two {W W' : World} {a : Option Addr} {xs : List Int} {p q : Nat} (h : Lies W a xs) (ht : Two p q W W') (hp : ∀ x, a = Option.some x → x.block ≠ p ∧ x.block ≠ q) : Lies W' a xs := by
  rcases h with h | ⟨b, off, rfl, hb, hc⟩
  · exact .inl h
  · refine .inr ⟨b, off, rfl, Nat.lt_of_lt_of_le hb ht.size, fun j hj => ?_⟩
    have : W'.cell? ⟨b, off + j, none⟩ = W.cell? ⟨b, off + j, none⟩ := World.cell?_of_block (ht.block b hb (hp _ rfl).1 (hp _ rfl).2)
    rw [this]
    exact hc j hj

/-- All blocks but those of X are as they were. -/
structure But (X : Nat → Prop) (w w' : World) : Prop where
  os : w'.os = w.os
  tape : w'.tape = w.tape
  output : w'.output = w.output
  size : w.heap.size ≤ w'.heap.size
  block : ∀ k, k < w.heap.size → ¬ X k → w'.heap[k]? = w.heap[k]?

theorem But.refl (X : Nat → Prop) (w : World) : But X w w := ⟨rfl, rfl, rfl, Nat.le_refl _, fun _ _ _ => rfl⟩

theorem But.trans {X : Nat → Prop} {a b d : World} (h : But X a b) (k : But X b d) : But X a d :=
  ⟨k.os.trans h.os, k.tape.trans h.tape, k.output.trans h.output, Nat.le_trans h.size k.size, fun i hi hX => (k.block i (Nat.lt_of_lt_of_le hi h.size) hX).trans (h.block i hi hX)⟩

theorem But.mono {X Y : Nat → Prop} {w w' : World} (h : But X w w') (hXY : ∀ k, X k → Y k) : But Y w w' := ⟨h.os, h.tape, h.output, h.size, fun k hk hY => h.block k hk (fun hX => hY (hXY k hX))⟩

theorem But.of_below {X : Nat → Prop} {w w' : World} (h : Below w.heap.size w w') : But X w w' := ⟨h.os, h.tape, h.output, h.size, fun k hk _ => h.block k hk⟩

theorem But.of_only {X : Nat → Prop} {c : Nat} {w w' : World} (h : Only c w w') (hc : X c) : But X w w' := ⟨h.os, h.tape, h.output, h.size, fun k hk hX => h.block k hk (fun e => hX (e ▸ hc))⟩

theorem But.of_two {X : Nat → Prop} {c g : Nat} {w w' : World} (h : Two c g w w') (hc : X c) (hg : X g) : But X w w' := ⟨h.os, h.tape, h.output, h.size, fun k hk hX => h.block k hk (fun e => hX (e ▸ hc)) (fun e => hX (e ▸ hg))⟩

theorem But.below {X : Nat → Prop} {B : Nat} {w w' : World} (h : But X w w') (hX : ∀ k, X k → B ≤ k) (hB : B ≤ w.heap.size) : Below B w w' := ⟨h.os, h.tape, h.output, h.size, fun k hk => h.block k (by omega) (fun e => by have := hX k e; omega)⟩

theorem Cells.but {X : Nat → Prop} {w w' : World} {k : Nat} {l : List Value} (h : Cells w k l) (hb : But X w w') (hk : ¬ X k) : Cells w' k l := by
  have hl := h.lt
  obtain ⟨t, h⟩ := h
  exact ⟨t, by rw [hb.block k hl hk]; exact h⟩

theorem Cells.drewN {w : World} {k n : Nat} {l : List Value} (h : Cells w k l) : Cells (w.drewN n) k l := h.below (below_drewN w n)

theorem But.lg_below {B l g : Nat} {w w' : World} (h : But (fun k => k = l ∨ k = g) w w') (h1 : B ≤ l) (h2 : B ≤ g) (h3 : B ≤ w.heap.size) : Below B w w' :=
  h.below (fun k hk => by rcases hk with rfl | rfl <;> assumption) h3

theorem getD_set (L : List Int) (k i : Nat) (x : Int) : (L.set k x).getD i 0 = if k = i ∧ i < L.length then x else L.getD i 0 := by
  simp only [List.getD_eq_getElem?_getD, List.getElem?_set]
  by_cases h : k = i
  · subst h
    by_cases h2 : k < L.length
    · rw [if_pos rfl, if_pos h2, if_pos ⟨rfl, h2⟩]; rfl
    · rw [if_pos rfl, if_neg h2, if_neg (fun h => h2 h.2), List.getElem?_eq_none (by omega)]
  · rw [if_neg h, if_neg (fun h' => h h'.1)]

theorem Lies.but {X : Nat → Prop} {w w' : World} {a : Option Addr} {xs : List Int} (h : Lies w a xs) (hb : But X w w') (hne : xs ≠ [] → ∀ p, a = Option.some p → ¬ X p.block) : Lies w' a xs := by
  rcases h with h | ⟨b, off, rfl, hl, hc⟩
  · exact .inl h
  · refine .inr ⟨b, off, rfl, Nat.lt_of_lt_of_le hl hb.size, fun j hj => ?_⟩
    have : w'.cell? ⟨b, off + j, none⟩ = w.cell? ⟨b, off + j, none⟩ := World.cell?_of_block (hb.block b hl (hne (by rintro rfl; simp at hj) _ rfl))
    rw [this]
    exact hc j hj
end Go.Proofs.YtcnpbkgnoeoccaaDoor
